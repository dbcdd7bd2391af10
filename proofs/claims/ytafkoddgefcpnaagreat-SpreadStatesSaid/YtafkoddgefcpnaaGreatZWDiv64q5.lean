/- Texts of these claims, one after the other. -/
import Derived.Test.YtafkoddgefcpnaaGreatRows
import Derived.Test.YtafkoddgefcpnaaGreatZWMathq1
namespace Go.Proofs.YtafkoddgefcpnaaGreat
open Go.RowKit

set_option maxHeartbeats 4000000 in
set_option maxRecDepth 100000 in
theorem div64_zero (lo y:Int) (h2:Word lo) (h3:Word y) (hy:0<y) (w:World) :
    Calls Tryz.prog 126 #[.int .u64 0,.int .u64 lo,.int .u64 y] w fun e w' =>
      e=.returned (.tuple #[.int .u64 (lo / y),.int .u64 (lo % y)])∧∃ n,w'=w.drewN n:=by
  obtain ⟨b1,b2⟩:=h2;obtain ⟨c1,c2⟩:=h3
  have t1:(y == 0)=false:=beq_eq_false_iff_ne.2 (by omega)
  have t2:decide (y≤0)=false:=decide_eq_false (by omega)
  have q1:0≤lo / y:=Int.ediv_nonneg b1 c1
  have q2:lo / y≤lo:=Int.ediv_le_self _ b1
  have m1:0≤lo % y:=Int.emod_nonneg _ (by omega)
  have m2:lo % y<y:=Int.emod_lt_of_pos _ hy
  go_enter Tryz.func126,Tryz.ntmps126
  go_wp2
  go_quiet (fail)
  go_wp2
  go_ret2
  exact ⟨rfl,_,rfl⟩

theorem pow_cast (n:Nat):((2 ^ n:Nat):Int)=(2:Int) ^ n:=by simp
theorem low32z (a:Int) (h0:0≤a) (h1:a<18446744073709551616):bits .and .u64 a 4294967295=a % 4294967296:=by
  obtain ⟨n,rfl⟩:=Int.eq_ofNat_of_zero_le h0
  have h:=bits_and_u64_nat n 4294967295 (by omega) (by omega)
  rw [show n &&& 4294967295=n % 4294967296 from Nat.and_two_pow_sub_one_eq_mod n 32] at h
  exact h.trans (by omega)
theorem keep64z (a:Int) (h0:0≤a) (h1:a<18446744073709551616):IntKind.u64.wrap a=a:=by rw [IntKind.wrap_u64];omega
theorem or_join (n:Nat) (x y:Int) (hx0:0≤x) (hx:x % 2 ^ n=0) (hx1:x<18446744073709551616) (hy0:0≤y) (hy:y<2 ^ n) (hy1:y<18446744073709551616):bits .or .u64 x y=x+y :=
  bits_join .u64 64 (by decide) (fun m h0 h1=>keep64z m h0 (by simpa using h1)) n x y hx0 hx (by simpa using hx1) hy0 hy (by simpa using hy1)

/-- The numbers shifted to the left until the divisor's first bit is set. -/
theorem norm64 (hi lo y s:Int) (h1:Word hi) (h2:Word lo) (h3:Word y) (hy:hi<y) (hs:lz y=s) (s0:0≤s) (s1:s≤63) :
    ∃ Y U V k:Int,9223372036854775808≤Y∧Y<18446744073709551616∧0≤U∧U<Y∧0≤V∧V<18446744073709551616 ∧
      IntKind.u64.wrap (y * 2 ^ s.toNat)=Y∧bits BinOp.or IntKind.u64 (IntKind.u64.wrap (hi * 2 ^ s.toNat)) (lo / 2 ^ (64 - s).toNat)=U∧IntKind.u64.wrap (lo * 2 ^ s.toNat)=V ∧
      0<k∧k=2 ^ s.toNat∧Y=y * k∧(hi * 18446744073709551616+lo) * k=U * 18446744073709551616+V:=by
  have hl:=lz_spec h3 (by obtain ⟨a,_⟩:=h1;omega)
  obtain ⟨a1,a2⟩:=h1;obtain ⟨b1,b2⟩:=h2;obtain ⟨c1,c2⟩:=h3
  rw [hs,pow_cast] at hl
  obtain ⟨l1,l2⟩:=hl
  have en:(64 - s).toNat=64 - s.toNat:=by omega
  have hn:s.toNat≤63:=by omega
  rw [en]
  generalize s.toNat=n at *
  have kp:(0:Int)<2 ^ n:=by rw [← pow_cast];have:0<2 ^ n:=Nat.pow_pos (by decide);omega
  have Kp:(0:Int)<2 ^ (64 - n):=by rw [← pow_cast];have:0<2 ^ (64 - n):=Nat.pow_pos (by decide);omega
  have kK:(2:Int) ^ n * 2 ^ (64 - n)=18446744073709551616:=by
    rw [← pow_cast,← pow_cast,← Int.natCast_mul,← Nat.pow_add,show n+(64 - n)=64 by omega];rfl
  have mh:hi * (2:Int) ^ n % 2 ^ n=0:=Int.mul_emod_left _ _
  have hik:0≤hi * (2:Int) ^ n:=Int.mul_nonneg a1 (by omega)
  have hil:hi * (2:Int) ^ n+2 ^ n≤y * 2 ^ n:=by
    have:(hi+1) * (2:Int) ^ n≤y * 2 ^ n:=Int.mul_le_mul_of_nonneg_right (by omega) (by omega)
    rw [Int.add_mul,Int.one_mul] at this;exact this
  have lq0:0≤lo / (2:Int) ^ (64 - n):=Int.ediv_nonneg b1 (by omega)
  have lq1:lo / (2:Int) ^ (64 - n)<2 ^ n:=Int.ediv_lt_of_lt_mul Kp (by rw [kK];exact b2)
  have lok:0≤lo * (2:Int) ^ n:=Int.mul_nonneg b1 (by omega)
  have ediv:lo * (2:Int) ^ n / 18446744073709551616=lo / 2 ^ (64 - n):=by
    rw [← kK,Int.mul_comm lo];exact Int.mul_ediv_mul_of_pos _ _ kp
  have em:=Int.mul_ediv_add_emod (lo * (2:Int) ^ n) 18446744073709551616
  rw [ediv] at em
  refine ⟨y * 2 ^ n,hi * 2 ^ n+lo / 2 ^ (64 - n),lo * 2 ^ n % 18446744073709551616,2 ^ n,l1,l2,by omega,by omega,by omega,by omega,keep64z _ (by omega) l2,?_,?_,kp,rfl,rfl,?_⟩
  · rw [keep64z _ hik (by omega)]
    exact or_join n _ _ hik mh (by omega) lq0 lq1 (by omega)
  · rw [IntKind.wrap_u64]
  · rw [Int.add_mul,Int.mul_right_comm]
    generalize hi * (2:Int) ^ n=A at *
    generalize lo * (2:Int) ^ n=L at *
    generalize lo / (2:Int) ^ (64 - n)=Q at *
    omega

/-- What stays of the difference in 64 bits is the rest. -/
theorem rest_wrap {u v y q:Int} (hy:0<y) (hy2:y<18446744073709551616) (hq:q=qh u v y) :
    IntKind.u64.wrap (IntKind.u64.wrap (IntKind.u64.wrap (u * 4294967296)+v) - IntKind.u64.wrap (q * y))=rh u v y:=by
  have e:=rh_eq u v y
  have b:=rh_bound (u:=u) (v:=v) hy
  rw [← hq] at e
  generalize q * y=p at *
  generalize rh u v y=r at *
  simp only [IntKind.wrap_u64]
  omega
/-- A round of the search for a half: it goes on with a guess that is one less, or the guess (or one less) is the half. -/
theorem knuth_step {u v y1 y0 Q a b:Int} (y01:0≤y0) (y02:y0<4294967296) (y11:2147483648≤y1) (v11:0≤v) (v12:v<4294967296) (hu0:0≤u) (hu:u<y1 * 4294967296+y0)
    (hQ:Q=qh u v (y1 * 4294967296+y0)) (a0:0≤a) (hQa:Q≤a) (e:u=a * y1+b) :
    (4294967296≤a∧b+y1<4294967296∧Q≤a - 1∧u=(a - 1) * y1+(b+y1)) ∨
    (a<4294967296∧0≤a * y0∧a * y0<18446744073709551616∧decide (4294967296 * b+v<a * y0)=true∧b+y1<4294967296∧Q≤a - 1∧u=(a - 1) * y1+(b+y1)) ∨
    ((4294967296≤a∧4294967296≤b+y1∧a - 1=Q) ∨
    (a<4294967296∧0≤a * y0∧a * y0<18446744073709551616∧decide (4294967296 * b+v<a * y0)=true∧4294967296≤b+y1∧a - 1=Q) ∨
    (a<4294967296∧0≤a * y0∧a * y0<18446744073709551616∧decide (4294967296 * b+v<a * y0)=false∧Q=a)):=by
  have hQ0:=qh_lt hu0 hu v11 v12
  rw [← hQ] at hQ0
  have hB:u=(a - 1) * y1+(b+y1):=by rw [Int.sub_mul,Int.one_mul];omega
  by_cases g1:4294967296≤a
  · have hd:Q≤a - 1:=by omega
    by_cases g2:4294967296≤b+y1
    · exact Or.inr (Or.inr (Or.inl ⟨g1,g2,by rw [hQ];exact (qh_break (by omega) y01 y02 hu v11 hB (by omega) (by rw [← hQ];exact hd) g2).symm⟩))
    · exact Or.inl ⟨g1,by omega,hd,hB⟩
  · have n1:0≤a * y0:=Int.mul_nonneg a0 y01
    have n2:a * y0<18446744073709551616:=by
      have:a * y0≤4294967295 * 4294967295:=Int.mul_le_mul (by omega) (by omega) y01 (by omega)
      omega
    by_cases g3:b * 4294967296+v<a * y0
    · have hd:Q≤a - 1:=by
        rw [hQ];exact qh_down (by omega) y01 hu0 hu v11 v12 e (by rw [← hQ];exact hQa) (Or.inr g3)
      by_cases g2:4294967296≤b+y1
      · exact Or.inr (Or.inr (Or.inr (Or.inl ⟨by omega,n1,n2,decide_eq_true (by omega),g2,by rw [hQ];exact (qh_break (by omega) y01 y02 hu v11 hB (by omega) (by rw [← hQ];exact hd) g2).symm⟩)))
      · exact Or.inr (Or.inl ⟨by omega,n1,n2,decide_eq_true (by omega),by omega,hd,hB⟩)
    · exact Or.inr (Or.inr (Or.inr (Or.inr ⟨by omega,n1,n2,decide_eq_false (by omega),by rw [hQ];exact qh_is (by omega) y01 e (by rw [← hQ];exact hQa) (by omega)⟩)))

set_option maxHeartbeats 4000000 in
set_option maxRecDepth 100000 in
theorem div64_pos (hi lo y:Int) (h1:Word hi) (h2:Word lo) (h3:Word y) (hp:0<hi) (hy:hi<y) (w:World) :
    Calls Tryz.prog 126 #[.int .u64 hi,.int .u64 lo,.int .u64 y] w fun e w' =>
      e=.returned (.tuple #[.int .u64 (val hi lo / y),.int .u64 (val hi lo % y)])∧w=w':=by
  have s0:=(lz_bound h3).1
  have s1:=lz_pos h3 (by omega)
  generalize hs:lz y=s at s0 s1
  obtain ⟨Y,U,V,k,Y1,Y2,U1,U2,V1,V2,E1,E2,E3,k0,kn,eY,eV⟩:=norm64 hi lo y s h1 h2 h3 hy hs s0 s1
  obtain ⟨a1,a2⟩:=h1;obtain ⟨b1,b2⟩:=h2;have hw:=h3;obtain ⟨c1,c2⟩:=h3
  have t1:(y == 0)=false:=beq_eq_false_iff_ne.2 (by omega)
  have t2:decide (y≤hi)=false:=decide_eq_false (by omega)
  have t3:(hi == 0)=false:=beq_eq_false_iff_ne.2 (by omega)
  have HS:=Lib.hid hs
  have HK:=Lib.hid kn
  have HY:=Lib.hid eY
  have HV:=Lib.hid eV
  clear hs kn eY eV
  obtain ⟨y1,y11,y12,E6,HY1⟩:∃ y1:Int,2147483648≤y1∧y1<4294967296∧Y / 4294967296=y1∧Hid (y1=Y / 4294967296):=⟨_,by omega,by omega,rfl,Lib.hid rfl⟩
  obtain ⟨y0,y01,y02,E7,HY0⟩:∃ y0:Int,0≤y0∧y0<4294967296∧bits BinOp.and IntKind.u64 Y 4294967295=y0∧Hid (Y=y1 * 4294967296+y0):=⟨Y % 4294967296,by omega,by omega,low32z Y (by omega) Y2,Lib.hid (by omega)⟩
  obtain ⟨v1,v11,v12,E4,HV1⟩:∃ v1:Int,0≤v1∧v1<4294967296∧V / 4294967296=v1∧Hid (v1=V / 4294967296):=⟨_,by omega,by omega,rfl,Lib.hid rfl⟩
  obtain ⟨v0,v01,v02,E5,HV0⟩:∃ v0:Int,0≤v0∧v0<4294967296∧bits BinOp.and IntKind.u64 V 4294967295=v0∧Hid (V=v1 * 4294967296+v0):=⟨V % 4294967296,by omega,by omega,low32z V V1 V2,Lib.hid (by omega)⟩
  obtain ⟨q,r,q1,q2,m1,m2,r1,r2,E8,E9,HQ⟩:∃ q r:Int,0≤q∧q≤U∧0≤q * y1∧q * y1≤U∧0≤r∧r<y1∧U / y1=q∧U - q * y1=r∧Hid (U=q * y1+r):=by
    have e:=Int.mul_ediv_add_emod U y1
    have g1:=Int.emod_nonneg U (show y1 ≠ 0 by omega)
    have g2:=Int.emod_lt_of_pos U (show 0<y1 by omega)
    have g3:0≤U / y1:=Int.ediv_nonneg U1 (by omega)
    have g4:U / y1≤U:=Int.ediv_le_self _ U1
    have g5:0≤U / y1 * y1:=Int.mul_nonneg g3 (by omega)
    rw [Int.mul_comm] at e
    exact ⟨U / y1,U % y1,g3,g4,g5,by omega,g1,g2,rfl,by omega,Lib.hid (by omega)⟩
  have HL:=Lib.hid (qh_le (u:=U) (v:=v1) (y1:=y1) (y0:=y0) (by omega) y01 U1 v11 v12)
  have HE8:=Lib.hid E8
  rw [HE8.out] at HL
  go_enter Tryz.func126,Tryz.ntmps126
  go_wp2_with fail
  refine (lead_any y hw _).mono ?_
  rintro e w' ⟨rfl,rfl⟩
  rw [HS.out]
  go_wp2
  clear E1 E2 E3 E4 E5 E6 E7 E8 E9 m1 m2
  obtain ⟨Q,Q1,Q2,HQh⟩:∃ Q:Int,0≤Q∧Q<4294967296∧Hid (Q=qh U v1 (y1 * 4294967296+y0)) :=
    ⟨_,(qh_lt U1 (by rw [← HY0.out];exact U2) v11 v12).1,(qh_lt U1 (by rw [← HY0.out];exact U2) v11 v12).2,Lib.hid rfl⟩
  have HU2:=Lib.hid (show U<y1 * 4294967296+y0 by rw [← HY0.out];exact U2)
  go_loop [15,16] (fun t u=>∃ a b:Int,t=.int .u64 a∧u=.int .u64 b∧0≤a∧a<18446744073709551616∧0≤b∧b<4294967296∧Q≤a∧Hid (U=a * y1+b)) (fun t _=>(intOf t).toNat)
  case atStart=>exact ⟨q,r,by rw [HE8.out],rfl,q1,by omega,r1,by omega,by rw [HQh.out];exact HL.out,HQ⟩
  case round =>
    obtain ⟨a,b,rfl,rfl,a11,a12,b11,b12,hQa,HA⟩:=hrel
    clear q1 q2 r1 r2
    have st:=knuth_step (y01:=y01) (y02:=y02) (y11:=y11) (v11:=v11) (v12:=v12) U1 HU2.out HQh.out a11 hQa HA.out
    rcases st with ⟨g1,g2,hd,hB⟩ | ⟨g1,n1,n2,t4,g2,hd,hB⟩ | st
    · have HB:=Lib.hid hB
      clear hB
      go_wp2
      go_round
      case rel=>exact ⟨a - 1,b+y1,rfl,rfl,by omega,by omega,by omega,by omega,hd,HB⟩
      case measure=>simp only [intOf];omega
    · have HB:=Lib.hid hB
      clear hB
      go_wp2
      go_round
      case rel=>exact ⟨a - 1,b+y1,rfl,rfl,by omega,by omega,by omega,by omega,hd,HB⟩
      case measure=>simp only [intOf];omega
    · obtain ⟨R,R1,R2,E10,HR⟩:∃ R:Int,0≤R∧R<Y∧IntKind.u64.wrap (IntKind.u64.wrap (IntKind.u64.wrap (U * 4294967296)+v1) - IntKind.u64.wrap (Q * Y))=R∧Hid (R=rh U v1 Y) :=
        ⟨rh U v1 Y,(rh_bound (by omega)).1,(rh_bound (by omega)).2,rest_wrap (by omega) Y2 (by rw [HQh.out,← HY0.out]),Lib.hid rfl⟩
      obtain ⟨q',r',q1,q2,m1,m2,r1,r2,E11,E12,HQ'⟩:∃ q r:Int,0≤q∧q≤R∧0≤q * y1∧q * y1≤R∧0≤r∧r<y1∧R / y1=q∧R - q * y1=r∧Hid (R=q * y1+r):=by
        have e:=Int.mul_ediv_add_emod R y1
        have g1:=Int.emod_nonneg R (show y1 ≠ 0 by omega)
        have g2:=Int.emod_lt_of_pos R (show 0<y1 by omega)
        have g3:0≤R / y1:=Int.ediv_nonneg R1 (by omega)
        have g4:R / y1≤R:=Int.ediv_le_self _ R1
        have g5:0≤R / y1 * y1:=Int.mul_nonneg g3 (by omega)
        rw [Int.mul_comm] at e
        exact ⟨R / y1,R % y1,g3,g4,g5,by omega,g1,g2,rfl,by omega,Lib.hid (by omega)⟩
      have HL':=Lib.hid (qh_le (u:=R) (v:=v0) (y1:=y1) (y0:=y0) (by omega) y01 R1 v01 v02)
      have HE11:=Lib.hid E11
      rw [HE11.out] at HL'
      obtain ⟨P,P1,P2,HPh⟩:∃ P:Int,0≤P∧P<4294967296∧Hid (P=qh R v0 (y1 * 4294967296+y0)) :=
        ⟨_,(qh_lt R1 (by rw [← HY0.out];exact R2) v01 v02).1,(qh_lt R1 (by rw [← HY0.out];exact R2) v01 v02).2,Lib.hid rfl⟩
      have HR2:=Lib.hid (show R<y1 * 4294967296+y0 by rw [← HY0.out];exact R2)
      have fin:=halves (k:=k) (y:=y) k0 (by omega) (u32:=U) (v1:=v1) (v0:=v0) (hi:=hi) (lo:=lo) (by have:=HV.out;have:=HV0.out;omega)
      rw [← HY.out,← HR.out] at fin
      have hQ3:qh U v1 Y=Q:=by rw [HQh.out,← HY0.out]
      have hP3:qh R v0 Y=P:=by rw [HPh.out,← HY0.out]
      rw [hQ3,hP3] at fin
      clear hQ3 hP3
      have HF:=Lib.hid fin
      clear fin
      rcases st with ⟨g1,g2,e⟩ | ⟨g1,n1,n2,t4,g2,e⟩ | ⟨g1,n1,n2,t4,rfl⟩
      all_goals
        go_wp2
        try clear e
        try clear t4 n1 n2
        clear E10 E11 E12 m1 m2 g1
        try clear g2
        go_loop [16,18] (fun u t=>∃ c d:Int,t=.int .u64 c∧u=.int .u64 d∧0≤c∧c<18446744073709551616∧0≤d∧d<4294967296∧P≤c∧Hid (R=c * y1+d)) (fun _ t=>(intOf t).toNat)
        case atStart=>exact ⟨q',r',by first | rfl | rw [HE11.out],rfl,q1,by omega,r1,by omega,by rw [HPh.out];exact HL'.out,HQ'⟩
        case round =>
          obtain ⟨c,d,rfl,rfl,c11,c12,d11,d12,hPc,HC⟩:=hrel
          clear q1 q2 r1 r2
          have st:=knuth_step (y01:=y01) (y02:=y02) (y11:=y11) (v11:=v01) (v12:=v02) R1 HR2.out HPh.out c11 hPc HC.out
          rcases st with ⟨g1,g2,hd,hB⟩ | ⟨g1,n1,n2,t4,g2,hd,hB⟩ | st
          · have HB:=Lib.hid hB
            clear hB
            go_wp2
            go_round
            case rel=>exact ⟨c - 1,d+y1,rfl,rfl,by omega,by omega,by omega,by omega,hd,HB⟩
            case measure=>simp only [intOf];omega
          · have HB:=Lib.hid hB
            clear hB
            go_wp2
            go_round
            case rel=>exact ⟨c - 1,d+y1,rfl,rfl,by omega,by omega,by omega,by omega,hd,HB⟩
            case measure=>simp only [intOf];omega
          · obtain ⟨R',R'1,R'2,E13,HR'⟩:∃ R':Int,0≤R'∧R'<Y∧IntKind.u64.wrap (IntKind.u64.wrap (IntKind.u64.wrap (R * 4294967296)+v0) - IntKind.u64.wrap (P * Y))=R'∧Hid (R'=rh R v0 Y) :=
              ⟨rh R v0 Y,(rh_bound (by omega)).1,(rh_bound (by omega)).2,rest_wrap (by omega) Y2 (by rw [HPh.out,← HY0.out]),Lib.hid rfl⟩
            rcases st with ⟨g1,g2,e⟩ | ⟨g1,n1,n2,t4,g2,e⟩ | ⟨g1,n1,n2,t4,rfl⟩
            all_goals
              go_wp2
              go_ret2
              obtain ⟨f1,f2⟩:=HF.out
              rw [← HR'.out,HK.out] at f2
              refine ⟨?_,rfl⟩
              unfold val
              rw [← f1,← f2]
              rfl

end Go.Proofs.YtafkoddgefcpnaaGreat

namespace Go.Proofs.YtafkoddgefcpnaaGreat
open Go.RowKit

theorem div64_up (hi lo y:Int) (h1:Word hi) (h2:Word lo) (h3:Word y) (hy:hi<y) (w:World) :
    Calls Tryz.prog 126 #[.int .u64 hi,.int .u64 lo,.int .u64 y] w fun e w' =>
      e=.returned (.tuple #[.int .u64 (val hi lo / y),.int .u64 (val hi lo % y)])∧∃ n,w'=w.drewN n:=by
  by_cases hp:hi=0
  · subst hp
    have e:val 0 lo=lo:=by unfold val;omega
    rw [e]
    exact div64_zero lo y h2 h3 hy w
  · refine (div64_pos hi lo y h1 h2 h3 (by obtain ⟨a,_⟩:=h1;omega) hy w).mono ?_
    rintro e w' ⟨he,rfl⟩
    exact ⟨he,0,rfl⟩

theorem short_eq (ah al b:Int) (h1:Word ah) (h2:Word al) (hb:0<b) :
    hiZ (val ah al / b)=ah / b∧loZ (val ah al / b)=val (ah % b) al / b∧val ah al % b=val (ah % b) al % b:=by
  obtain ⟨a1,a2⟩:=h1;obtain ⟨b1,b2⟩:=h2
  have e:=Int.mul_ediv_add_emod ah b
  have m1:=Int.emod_nonneg ah (show b ≠ 0 by omega)
  have m2:=Int.emod_lt_of_pos ah hb
  have ev:val ah al=val (ah % b) al+b * (ah / b * 18446744073709551616):=by
    unfold val
    rw [← Int.mul_assoc]
    generalize b * (ah / b)=t at *
    omega
  have hq:val ah al / b=val (ah % b) al / b+ah / b * 18446744073709551616:=by
    rw [ev,Int.add_mul_ediv_left _ _ (by omega)]
  have hl:0≤val (ah % b) al / b:=Int.ediv_nonneg (by unfold val;omega) (by omega)
  have hu:val (ah % b) al / b<18446744073709551616:=Int.ediv_lt_of_lt_mul hb (by unfold val;omega)
  refine ⟨?_,?_,?_⟩
  · rw [hq];unfold hiZ;generalize ah / b=t at *;omega
  · rw [hq];unfold loZ;generalize ah / b=t at *;omega
  · rw [ev,Int.add_mul_emod_self_left]

theorem divShort_up (ah al b:Int) (h1:Word ah) (h2:Word al) (h3:Word b) (hb:0<b) (w:World) :
    Calls Tryz.prog 122 #[.agg #[.int .u64 ah,.int .u64 al],.int .u64 b] w fun e w' =>
      e=.returned (.tuple #[.agg #[.int .u64 (hiZ (val ah al / b)),.int .u64 (loZ (val ah al / b))],.int .u64 (val ah al % b)])∧Up w w':=by
  have HE:=Lib.hid (short_eq ah al b h1 h2 hb)
  have g2:=h2;have g3:=h3
  obtain ⟨a1,a2⟩:=h1;obtain ⟨b1,b2⟩:=h2;obtain ⟨c1,c2⟩:=h3
  have q1:0≤ah / b:=Int.ediv_nonneg a1 c1
  have q2:ah / b≤ah:=Int.ediv_le_self _ a1
  have m1:0≤ah % b:=Int.emod_nonneg _ (by omega)
  have m2:ah % b<b:=Int.emod_lt_of_pos _ hb
  have t1:(b == 0)=false:=beq_eq_false_iff_ne.2 (by omega)
  go_enter Tryz.func122,Tryz.ntmps122
  go_wp2
  go_quiet (fail)
  go_wp2_with fail
  refine (div64_up (ah % b) al b ⟨m1,by omega⟩ g2 g3 m2 _).mono ?_
  rintro e w' ⟨rfl,n,rfl⟩
  go_wp2
  refine bodyPost_ret (v:=.tuple #[.agg #[.int .u64 (ah / b),.int .u64 (val (ah % b) al / b)],.int .u64 (val (ah % b) al % b)]) (by simp [results,Tryz.results122,go_sem]) rfl ⟨?_,?_⟩
  · obtain ⟨e1,e2,e3⟩:=HE.out
    rw [e1,e2,e3]
  · repeat (first | exact Up.refl _ | refine Up.alloc ?_ _ _ | refine Up.setCell ?_ (by first | (simp;done) | (simp;omega) | omega) _ | refine Up.drewN ?_ _ | refine Up.drew ?_)

end Go.Proofs.YtafkoddgefcpnaaGreat
