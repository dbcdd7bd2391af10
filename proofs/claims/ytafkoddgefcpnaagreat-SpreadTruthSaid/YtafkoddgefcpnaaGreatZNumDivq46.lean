/- Texts of these claims, one after the other. -/
import Derived.Test.YtafkoddgefcpnaaGreatRows
import Derived.Test.YtafkoddgefcpnaaGreatZWideq3
namespace Go.Proofs.YtafkoddgefcpnaaGreat
open Go.RowKit

theorem mod_any (a b:Int) (hb:In b) (w:World) :
    Calls Tryz.prog 88 #[.int .i64 a,.int .i64 b] w fun e w'=>e=got (rests a b) (hasr b)∧w=w':=by
  by_cases h0:b=0
  case pos =>
    have H1:=Lib.hid (rests_no (a:=a) h0)
    have H2:=Lib.hid (hasr_no h0)
    have t0:(b == 0)=true:=beq_iff_eq.2 h0
    clear h0
    go_enter Tryz.func88,Tryz.ntmps88
    go_wp2
    go_ret2
    exact ⟨by rw [H1.out,H2.out];rfl,rfl⟩
  have H1:=Lib.hid (rests_yes (a:=a) h0)
  have H2:=Lib.hid (hasr_yes h0)
  have t0:(b == 0)=false:=beq_eq_false_iff_ne.2 h0
  obtain ⟨q1,q2⟩:=tmod_in (a:=a) hb h0
  by_cases hr:a.tmod b=0
  · have t1:(a.tmod b != 0)=false:=bne_eq_false_iff_eq.2 hr
    have K:=Lib.hid hr
    clear hr
    go_enter Tryz.func88,Tryz.ntmps88
    go_wp2
    go_ret2
    exact ⟨by rw [H1.out,H2.out];unfold rest;rw [if_neg (by have:=K.out;omega)];rfl,rfl⟩
  · have t1:(a.tmod b != 0)=true:=bne_iff_ne.2 hr
    have K:=Lib.hid hr
    have hs:=tmod_neg_iff hr
    have hl:=tmod_lt a b h0
    have KS:=Lib.hid hs
    clear hr
    obtain ⟨b1,b2⟩:=hb
    by_cases sa:a<0
    · have ta:decide (a.tmod b<0)=true:=decide_eq_true (hs.2 sa)
      have KA:=Lib.hid sa
      by_cases sb:b<0
      · have tb:decide (b<0)=true:=decide_eq_true sb
        have KB:=Lib.hid sb
        clear sa sb hs hl
        go_enter Tryz.func88,Tryz.ntmps88
        go_wp2
        go_ret2
        exact ⟨by rw [H1.out,H2.out];unfold rest;rw [if_neg (by have:=K.out;have:=KA.out;have:=KB.out;omega)];rfl,rfl⟩
      · have tb:decide (b<0)=false:=decide_eq_false sb
        have KB:=Lib.hid sb
        have m1:-9223372036854775808≤a.tmod b+b:=by omega
        have m2:a.tmod b+b≤9223372036854775807:=by omega
        clear sa sb hs hl
        go_enter Tryz.func88,Tryz.ntmps88
        go_wp2
        go_ret2
        exact ⟨by rw [H1.out,H2.out];unfold rest;rw [if_pos (by have:=K.out;have:=KA.out;have:=KB.out;omega)];rfl,rfl⟩
    · have ta:decide (a.tmod b<0)=false:=decide_eq_false (fun h=>sa (hs.1 h))
      have KA:=Lib.hid sa
      by_cases sb:b<0
      · have tb:decide (b<0)=true:=decide_eq_true sb
        have KB:=Lib.hid sb
        have m1:-9223372036854775808≤a.tmod b+b:=by omega
        have m2:a.tmod b+b≤9223372036854775807:=by omega
        clear sa sb hs hl
        go_enter Tryz.func88,Tryz.ntmps88
        go_wp2
        go_ret2
        exact ⟨by rw [H1.out,H2.out];unfold rest;rw [if_pos (by have:=K.out;have:=KA.out;have:=KB.out;omega)];rfl,rfl⟩
      · have tb:decide (b<0)=false:=decide_eq_false sb
        have KB:=Lib.hid sb
        clear sa sb hs hl
        go_enter Tryz.func88,Tryz.ntmps88
        go_wp2
        go_ret2
        exact ⟨by rw [H1.out,H2.out];unfold rest;rw [if_neg (by have:=K.out;have:=KA.out;have:=KB.out;omega)];rfl,rfl⟩

end Go.Proofs.YtafkoddgefcpnaaGreat

namespace Go.Proofs.YtafkoddgefcpnaaGreat
open Go.RowKit

theorem rbits_any (n:Int) (hn:In n) (w:World) :
    Calls Tryz.prog 51 #[.int .i64 n] w fun e w'=>e=.returned (.int .i64 (bitsZ n))∧w=w':=by
  obtain ⟨n1,n2⟩:=hn
  have hb:=bitsZ_bound n
  have HB:=Lib.hid hb
  clear hb
  go_enter Tryz.func51,Tryz.ntmps51
  go_wp2
  go_loop [0,3] (fun t k=>∃ m c:Int,t=.int .i64 m∧k=.int .i64 c∧m≤9223372036854775807∧-9223372036854775808≤m∧0≤c∧Hid (c+bitsZ m=bitsZ n)) (fun t _=>(intOf t).toNat)
  case atStart=>exact ⟨n,0,rfl,rfl,n2,n1,by omega,Lib.hid (by omega)⟩
  case round =>
    obtain ⟨m,c,rfl,rfl,m2,m1,hc,HR⟩:=hrel
    by_cases hm:0<m
    · have hs:=bitsZ_step m hm
      have hcu:c≤9223372036854775806:=by
        have:=HR.out;have:=HB.out;have:=bitsZ_bound (m / 2);omega
      have HS:=Lib.hid hs
      clear hs
      go_wp2
      go_round
      case rel=>exact ⟨m / 2,c+1,rfl,rfl,by omega,by omega,by omega,Lib.hid (by have:=HS.out;have:=HR.out;omega)⟩
      case measure=>simp only [intOf];omega
    · go_wp2
      go_ret
      have e1:=bitsZ_low m (by omega)
      exact ⟨by rw [← HR.out,e1,Int.add_zero];rfl,rfl⟩


end Go.Proofs.YtafkoddgefcpnaaGreat
