/- What the greatest common divisors of package num, and of its reference, return. -/
import Derived.Test.YtafkoddgefcpnaaGreatRows
import Derived.Test.YtafkoddgefcpnaaGreatZWideq3
namespace Go.Proofs.YtafkoddgefcpnaaGreat
open Go.RowKit

theorem gcd_any (a b:Int) (ha:In a) (hb:In b) (w:World) :
    Calls Tryz.prog 89 #[.int .i64 a,.int .i64 b] w fun e w'=>e=.returned (.int .i64 (gcds a b))∧∃ n,w'=w.drewN n:=by
  obtain ⟨a1,a2⟩:=ha;obtain ⟨b1,b2⟩:=hb
  by_cases hna:a<0
  · have H:=Lib.hid (gcds_neg (x:=a) (y:=b) (Or.inl hna))
    go_enter Tryz.func89,Tryz.ntmps89
    go_wp2
    go_ret
    exact ⟨by rw [H.out];rfl,0,rfl⟩
  by_cases hnb:b<0
  · have H:=Lib.hid (gcds_neg (x:=a) (y:=b) (Or.inr hnb))
    go_enter Tryz.func89,Tryz.ntmps89
    go_wp2
    go_ret
    exact ⟨by rw [H.out];rfl,0,rfl⟩
  have H:=Lib.hid (gcds_pos (x:=a) (y:=b) (by omega) (by omega))
  have tA:decide (a<0)=false:=decide_eq_false hna
  have tB:decide (b<0)=false:=decide_eq_false hnb
  go_enter Tryz.func89,Tryz.ntmps89
  go_wp2
  go_loopw [0,1] (fun t u wr=>∃ x y:Int,t=.int .i64 x∧u=.int .i64 y∧0≤x∧x≤9223372036854775807∧0≤y∧y≤9223372036854775807∧Hid (gcdZ x y=gcdZ a b)∧∃ n,wr=w.drewN n) (fun _ u _=>(intOf u).toNat)
  case atStart=>exact ⟨a,b,rfl,rfl,by omega,by omega,by omega,by omega,Lib.hid rfl,0,rfl⟩
  case round =>
    obtain ⟨x,y,rfl,rfl,x1,x2,y1,y2,HR,n,rfl⟩:=hrel
    clear tA tB
    by_cases hy:y=0
    · have t1:(y != 0)=false:=bne_eq_false_iff_eq.2 hy
      have HY:=Lib.hid hy
      clear hy
      go_wp2
      go_ret
      refine ⟨?_,n,rfl⟩
      have h2:=HR.out
      rw [HY.out,gcdZ_zero x x1] at h2
      rw [H.out,← h2];rfl
    · have t1:(y != 0)=true:=bne_iff_ne.2 hy
      have y3:0<y:=by omega
      have HS:=Lib.hid (gcdZ_step x y x1 y3)
      have m1:0≤x % y:=Int.emod_nonneg _ hy
      have m2:x % y<y:=Int.emod_lt_of_pos _ y3
      go_wp2
      go_quiet (fail)
      go_wp2
      go_roundw
      case rel=>exact ⟨y,x % y,rfl,rfl,by omega,by omega,by omega,by omega,Lib.hid (HS.out.trans HR.out),n+nq,by simp [World.drewN,Nat.add_assoc]⟩
      case measure=>simp only [intOf];omega

end Go.Proofs.YtafkoddgefcpnaaGreat
