/- The numbers of package recent: which parameters, values and states are valid; what the functions on numbers return. -/
import Derived.Test.YtafkoddgefcpnaaGreatRows
import Derived.Test.YtafkoddgefcpnaaGreatZESqq31
import Derived.Test.YtafkoddgefcpnaaGreatZGBaseq14
namespace Go.Proofs.YtafkoddgefcpnaaGreat
open Go.RowKit

theorem rvalue_any (v:Int) (w:World):Calls Tryz.prog 33 #[.int .i64 v] w fun e w'=>e=.returned (.bool (valueB v))∧w=w':=by
  by_cases h1:-4096≤v
  · by_cases h2:v≤4096
    · rw [show valueB v=true from decide_eq_true ⟨h1,h2⟩]
      go_enter Tryz.func33,Tryz.ntmps33
      go_wp2
      go_ret
      exact ⟨rfl,rfl⟩
    · rw [show valueB v=false from decide_eq_false (fun h=>h2 h.2)]
      go_enter Tryz.func33,Tryz.ntmps33
      go_wp2
      go_ret
      exact ⟨rfl,rfl⟩
  · rw [show valueB v=false from decide_eq_false (fun h=>h1 h.1)]
    go_enter Tryz.func33,Tryz.ntmps33
    go_wp2
    go_ret
    exact ⟨rfl,rfl⟩

theorem rmay_any (v c now:Int) (w:World) :
    Calls Tryz.prog 43 #[.int .i64 v,.int .i64 c,.int .i64 now] w fun e w'=>e=.returned (.bool (mayB v c now))∧w=w':=by
  have KT:=Lib.hid (rtick_any now)
  have KW:=Lib.hid (rwin_any v)
  cases hv:winB v with
  | false =>
    have e0:mayB v c now=false:=by unfold mayB;rw [hv,Bool.and_false];rfl
    rw [e0]
    rw [hv] at KW
    clear hv e0
    go_enter Tryz.func43,Tryz.ntmps43
    go_wp2_with (go_at_call 77;(with_reducible refine (KW.out _).mono ?_);rintro e w' ⟨rfl,rfl⟩)
    go_ret
    exact ⟨rfl,rfl⟩
  | true =>
    rw [hv] at KW
    have e0:mayB v c now=(tickB now && decide (1≤c∧c≤65536)):=by unfold mayB;rw [hv,Bool.and_true]
    rw [e0]
    clear hv e0
    generalize tickB now=t at *
    by_cases h1:1≤c
    · by_cases h2:c≤65536
      · rw [decide_eq_true (p:=1≤c∧c≤65536) ⟨h1,h2⟩]
        go_enter Tryz.func43,Tryz.ntmps43
        go_wp2_with (first | (go_at_call 76;(with_reducible refine (KT.out _).mono ?_);rintro e w' ⟨rfl,rfl⟩) | (go_at_call 77;(with_reducible refine (KW.out _).mono ?_);rintro e w' ⟨rfl,rfl⟩))
        go_ret
        exact ⟨by cases t <;> rfl,rfl⟩
      · rw [decide_eq_false (p:=1≤c∧c≤65536) (fun h=>h2 h.2),Bool.and_false]
        have t2:decide (c≤65536)=false:=decide_eq_false h2
        go_enter Tryz.func43,Tryz.ntmps43
        go_wp2_with (first | (go_at_call 76;(with_reducible refine (KT.out _).mono ?_);rintro e w' ⟨rfl,rfl⟩) | (go_at_call 77;(with_reducible refine (KW.out _).mono ?_);rintro e w' ⟨rfl,rfl⟩))
        go_ret
        exact ⟨rfl,rfl⟩
    · rw [decide_eq_false (p:=1≤c∧c≤65536) (fun h=>h1 h.1),Bool.and_false]
      go_enter Tryz.func43,Tryz.ntmps43
      go_wp2_with (first | (go_at_call 76;(with_reducible refine (KT.out _).mono ?_);rintro e w' ⟨rfl,rfl⟩) | (go_at_call 77;(with_reducible refine (KW.out _).mono ?_);rintro e w' ⟨rfl,rfl⟩))
      go_ret
      exact ⟨rfl,rfl⟩

end Go.Proofs.YtafkoddgefcpnaaGreat
