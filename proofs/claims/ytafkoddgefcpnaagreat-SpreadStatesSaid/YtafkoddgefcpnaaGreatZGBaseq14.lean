/- Texts of these claims, one after the other. -/
import Derived.Test.YtafkoddgefcpnaaGreatRows
import Derived.Test.YtafkoddgefcpnaaGreatZGBaseq13
namespace Go.Proofs.YtafkoddgefcpnaaGreat
open Go.RowKit

theorem fl_take (L:List It) (k:Nat):(fl L).take (k * 2)=fl (L.take k):=by
  induction L generalizing k with
  | nil=>simp [fl]
  | cons p L ih =>
    cases k with
    | zero=>rfl
    | succ k=>rw [show (k+1) * 2=k * 2+1+1 by omega];simpa [fl] using ih k
theorem Sl.first {w:World} {A:Option Addr} {n:Nat} {L:List It} (h:Sl w A n L) {k:Nat} (hk:k≤n):Sl w A k (L.take k):=by
  refine ⟨by rw [List.length_take,h.1];omega,fun hn=>?_⟩
  obtain ⟨b,o,rfl,hcell⟩:=h.2 (by omega)
  refine ⟨b,o,rfl,fun j u hu=>hcell j u ?_⟩
  rw [← fl_take,List.getElem?_take] at hu
  split at hu
  · exact hu
  · cases hu

section
variable {w w' : World} {g : Nat} {t : TypeId} {cs : Array Value}
end
end Go.Proofs.YtafkoddgefcpnaaGreat

namespace Go.Proofs.YtafkoddgefcpnaaGreat
open Go.RowKit

/-- What Back returns, and what Advance does. -/
def backE (now td:Int):Int:=if td<now∨16777216<td then 3 else 0
theorem tickB_false {t:Int} (h:tickB t=false):t<0∨16777216<t:=by have:=of_decide_eq_false h;omega
theorem winB_low {t:Int} (h:t<1):winB t=false:=decide_eq_false (by omega)
theorem winB_high {t:Int} (h:1048576<t):winB t=false:=decide_eq_false (by omega)
theorem rtick_any (t:Int) (w:World) :
    Calls Tryz.prog 76 #[.int .i64 t] w fun e w'=>e=.returned (.bool (tickB t))∧w=w':=by
  by_cases h:0≤t
  · by_cases k:t≤16777216
    · rw [tickB_yes h k]
      go_enter Tryz.func76,Tryz.ntmps76
      go_wp2
      go_ret
      exact ⟨rfl,rfl⟩
    · rw [tickB_high (by omega)]
      go_enter Tryz.func76,Tryz.ntmps76
      go_wp2
      go_ret
      exact ⟨rfl,rfl⟩
  · rw [tickB_low (by omega)]
    go_enter Tryz.func76,Tryz.ntmps76
    go_wp2
    go_ret
    exact ⟨rfl,rfl⟩
theorem rwin_any (t:Int) (w:World) :
    Calls Tryz.prog 77 #[.int .i64 t] w fun e w'=>e=.returned (.bool (winB t))∧w=w':=by
  by_cases h:1≤t
  · by_cases k:t≤1048576
    · rw [winB_yes h k]
      go_enter Tryz.func77,Tryz.ntmps77
      go_wp2
      go_ret
      exact ⟨rfl,rfl⟩
    · rw [winB_high (by omega)]
      go_enter Tryz.func77,Tryz.ntmps77
      go_wp2
      go_ret
      exact ⟨rfl,rfl⟩
  · rw [winB_low (by omega)]
    go_enter Tryz.func77,Tryz.ntmps77
    go_wp2
    go_ret
    exact ⟨rfl,rfl⟩
theorem rback_any (now td:Int) (w:World) :
    Calls Tryz.prog 29 #[.int .i64 now,.int .i64 td] w fun e w'=>e=.returned (.int .i64 (backE now td))∧w=w':=by
  by_cases h:td<now
  · have e1:backE now td=3:=if_pos (Or.inl h)
    rw [e1];clear e1
    go_enter Tryz.func29,Tryz.ntmps29
    go_wp2
    go_ret
    exact ⟨rfl,rfl⟩
  · by_cases k:16777216<td
    · have e1:backE now td=3:=if_pos (Or.inr k)
      rw [e1];clear e1
      go_enter Tryz.func29,Tryz.ntmps29
      go_wp2
      go_ret
      exact ⟨rfl,rfl⟩
    · have e1:backE now td=0:=if_neg (by omega)
      rw [e1];clear e1
      go_enter Tryz.func29,Tryz.ntmps29
      go_wp2
      go_ret
      exact ⟨rfl,rfl⟩

theorem rlive_any (now v t:Int) (w:World) :
    Calls Tryz.prog 40 #[.int .i64 now,.int .i64 v,.int .i64 t] w fun e w'=>e=.returned (.bool (liveB now v t))∧w=w':=by
  have KT:=Lib.hid (rtick_any now)
  have KW:=Lib.hid (rwin_any v)
  have KU:=Lib.hid (rtick_any t)
  cases ht:tickB now with
  | false =>
    rw [liveB_no (by rw [ht];rfl)]
    rw [ht] at KT
    clear ht
    go_enter Tryz.func40,Tryz.ntmps40
    go_wp2_with (go_at_call 76;(with_reducible refine (KT.out _).mono ?_);rintro e w' ⟨rfl,rfl⟩)
    go_ret
    exact ⟨by first | rfl | (simp;done) | (simp;omega),rfl⟩
  | true =>
    rw [ht] at KT
    cases hv:winB v with
    | false =>
      rw [liveB_no (by rw [hv,Bool.and_false])]
      rw [hv] at KW
      clear ht hv
      go_enter Tryz.func40,Tryz.ntmps40
      go_wp2_with (first | (go_at_call 76;(with_reducible refine (KT.out _).mono ?_);rintro e w' ⟨rfl,rfl⟩) | (go_at_call 77;(with_reducible refine (KW.out _).mono ?_);rintro e w' ⟨rfl,rfl⟩))
      go_ret
      exact ⟨by first | rfl | (simp;done) | (simp;omega),rfl⟩
    | true =>
      have hb:(tickB now && winB v)=true:=by rw [ht,hv];rfl
      rw [liveB_yes hb,firZ_yes hb]
      obtain ⟨n1,n2⟩:=tickB_true ht
      obtain ⟨v1,v2⟩:=winB_true hv
      rw [hv] at KW
      clear hb hv ht
      cases hu:tickB t with
      | false =>
        rw [hu] at KU
        have e1:(decide (max 0 (now - v+1)≤t) && decide (t≤now))=false:=by
          rcases tickB_false hu with h | h
          · rw [decide_eq_false (by omega)];rfl
          · rw [decide_eq_false (p:=t≤now) (by omega),Bool.and_false]
        rw [e1]
        clear e1 hu
        go_enter Tryz.func40,Tryz.ntmps40
        go_wp2_with fail
        refine (KT.out _).mono ?_
        rintro e w' ⟨rfl,rfl⟩
        go_wp2_with fail
        refine (KW.out _).mono ?_
        rintro e w' ⟨rfl,rfl⟩
        go_wp2_with fail
        refine (KU.out _).mono ?_
        rintro e w' ⟨rfl,rfl⟩
        go_wp2_with fail
        go_ret
        exact ⟨by first | rfl | (simp;done) | (simp;omega),rfl⟩
      | true =>
        rw [hu] at KU
        obtain ⟨t1,t2⟩:=tickB_true hu
        clear hu
        by_cases h1:now - v<t
        · by_cases h2:t≤now
          · rw [decide_eq_true (p:=max 0 (now - v+1)≤t) (by omega),decide_eq_true h2]
            go_enter Tryz.func40,Tryz.ntmps40
            go_wp2_with fail
            refine (KT.out _).mono ?_
            rintro e w' ⟨rfl,rfl⟩
            go_wp2_with fail
            refine (KW.out _).mono ?_
            rintro e w' ⟨rfl,rfl⟩
            go_wp2_with fail
            refine (KU.out _).mono ?_
            rintro e w' ⟨rfl,rfl⟩
            go_wp2_with fail
            go_ret
            exact ⟨by first | rfl | (simp;done) | (simp;omega),rfl⟩
          · rw [decide_eq_false h2,Bool.and_false]
            go_enter Tryz.func40,Tryz.ntmps40
            go_wp2_with fail
            refine (KT.out _).mono ?_
            rintro e w' ⟨rfl,rfl⟩
            go_wp2_with fail
            refine (KW.out _).mono ?_
            rintro e w' ⟨rfl,rfl⟩
            go_wp2_with fail
            refine (KU.out _).mono ?_
            rintro e w' ⟨rfl,rfl⟩
            go_wp2_with fail
            go_ret
            exact ⟨by first | rfl | (simp;done) | (simp;omega),rfl⟩
        · rw [decide_eq_false (p:=max 0 (now - v+1)≤t) (by omega)]
          go_enter Tryz.func40,Tryz.ntmps40
          go_wp2_with fail
          refine (KT.out _).mono ?_
          rintro e w' ⟨rfl,rfl⟩
          go_wp2_with fail
          refine (KW.out _).mono ?_
          rintro e w' ⟨rfl,rfl⟩
          go_wp2_with fail
          refine (KU.out _).mono ?_
          rintro e w' ⟨rfl,rfl⟩
          go_wp2_with fail
          go_ret
          exact ⟨by first | rfl | (simp;done) | (simp;omega),rfl⟩
end Go.Proofs.YtafkoddgefcpnaaGreat
