/- What wide.Bits, Left and Right return where divLong calls them. -/
import Derived.Test.YtafkoddgefcpnaaGreatRows
import Derived.Test.YtafkoddgefcpnaaGreatZWFormatq9
namespace Go.Proofs.YtafkoddgefcpnaaGreat
open Go.RowKit

/-- The quotient of wide numbers by the estimate from the divisor's first word. k = 2^n, c = 2^(63-n): b * k has its first bit set. -/
theorem long_est {a b k c f:Int} (ha0:0≤a) (ha:a<340282366920938463463374607431768211456) (hb:18446744073709551616≤b) (hc:0<c) (hkc:k * c=9223372036854775808)
    (hf:f=b * k / 18446744073709551616) (hf1:9223372036854775808≤f) :
    a / b≤a / 2 / f / c∧a / 2 / f / c≤a / b+1:=by
  have e1:a / 2 / f / c=a / (2 * f * c):=by
    rw [Int.ediv_ediv_of_nonneg (by omega),Int.ediv_ediv_of_nonneg (by omega),Int.mul_assoc]
  rw [e1]
  have hd:=Int.mul_ediv_add_emod (b * k) 18446744073709551616
  rw [← hf] at hd
  have r0:=Int.emod_nonneg (b * k) (show (18446744073709551616:Int) ≠ 0 by decide)
  have r1:=Int.emod_lt_of_pos (b * k) (show (0:Int)<18446744073709551616 by decide)
  generalize b * k % 18446744073709551616=r at *
  have hE:b * 9223372036854775808=2 * f * c * 9223372036854775808+r * c:=by
    have h:=congrArg (· * c) hd
    simp only [Int.add_mul] at h
    rw [Int.mul_assoc b k c,hkc] at h
    rw [← h,Int.mul_assoc 18446744073709551616 f c,Int.mul_assoc 2 f c]
    generalize f * c=z
    omega
  have rc0:0≤r * c:=Int.mul_nonneg r0 (by omega)
  have rc1:r * c≤18446744073709551615 * c:=Int.mul_le_mul_of_nonneg_right (by omega) (by omega)
  have D1:18446744073709551616 * c≤2 * f * c:=Int.mul_le_mul_of_nonneg_right (by omega) (by omega)
  generalize hD:2 * f * c=D at *
  have hbD:D≤b:=by omega
  have he:b - D<2 * c:=by omega
  have Dp:0<D:=by omega
  constructor
  · rw [Int.le_ediv_iff_mul_le Dp]
    have h1:a / b * b≤a:=Int.ediv_mul_le a (by omega)
    have h2:a / b * D≤a / b * b:=Int.mul_le_mul_of_nonneg_left hbD (Int.ediv_nonneg ha0 (by omega))
    omega
  · have key:a * (b - D)<D * b:=by
      by_cases h1:c=1
      · have h2:a * (b - D)≤a * 1:=Int.mul_le_mul_of_nonneg_left (by omega) ha0
        have h3:18446744073709551616 * 18446744073709551616≤D * b:=Int.mul_le_mul (by omega) hb (by decide) (by omega)
        omega
      · have h2:a * (b - D)≤a * (2 * c):=Int.mul_le_mul_of_nonneg_left (by omega) ha0
        have h3:a * (2 * c)<340282366920938463463374607431768211456 * (2 * c):=Int.mul_lt_mul_of_pos_right ha (by omega)
        have h4:(18446744073709551616 * c) * (18446744073709551616 * c)≤D * b:=Int.mul_le_mul D1 (by omega) (by omega) (by omega)
        have h5:(18446744073709551616 * c) * (18446744073709551616 * c)=340282366920938463463374607431768211456 * (c * c):=by
          rw [Int.mul_assoc 18446744073709551616 c,← Int.mul_assoc c 18446744073709551616 c,Int.mul_comm c 18446744073709551616,Int.mul_assoc 18446744073709551616 c c,← Int.mul_assoc]
          rfl
        have h6:2 * c≤c * c:=Int.mul_le_mul_of_nonneg_right (by omega) (by omega)
        omega
    apply Int.le_of_lt_add_one
    apply Int.ediv_lt_of_lt_mul Dp
    apply Int.lt_of_not_ge
    intro hge
    have q1:a<(a / b+1) * b:=Int.lt_ediv_add_one_mul_self a (by omega)
    generalize a / b=q at *
    have m1:(q+1+1) * D * b≤a * b:=Int.mul_le_mul_of_nonneg_right hge (by omega)
    have m2:a * D<(q+1) * b * D:=Int.mul_lt_mul_of_pos_right q1 Dp
    have x1:a * (b - D)=a * b - a * D:=Int.mul_sub a b D
    have x2:(q+1+1) * D * b=(q+1) * b * D+D * b:=by
      rw [Int.mul_assoc (q+1+1),Int.add_mul (q+1) 1,Int.one_mul,Int.mul_assoc (q+1) b D,Int.mul_comm b D]
    omega

/-- The words of a number that is shifted to the left. -/
theorem shl_words (h l s:Int) (hh:Word h) (hl:Word l) (s0:0≤s) (s1:s≤63) (hk:h * 2 ^ s.toNat<18446744073709551616) :
    bits BinOp.or IntKind.u64 (IntKind.u64.wrap (h * 2 ^ s.toNat)) (l / 2 ^ (64 - s).toNat)=hiZ (val h l * 2 ^ s.toNat)∧IntKind.u64.wrap (l * 2 ^ s.toNat)=loZ (val h l * 2 ^ s.toNat)∧In2 (val h l * 2 ^ s.toNat):=by
  obtain ⟨a1,a2⟩:=hh;obtain ⟨b1,b2⟩:=hl
  have en:(64 - s).toNat=64 - s.toNat:=by omega
  have hn:s.toNat≤63:=by omega
  rw [en]
  generalize s.toNat=n at *
  have kp:(0:Int)<2 ^ n:=by rw [← pow_cast];have:0<2 ^ n:=Nat.pow_pos (by decide);omega
  have Kp:(0:Int)<2 ^ (64 - n):=by rw [← pow_cast];have:0<2 ^ (64 - n):=Nat.pow_pos (by decide);omega
  have kK:(2:Int) ^ n * 2 ^ (64 - n)=18446744073709551616:=by
    rw [← pow_cast,← pow_cast,← Int.natCast_mul,← Nat.pow_add,show n+(64 - n)=64 by omega];rfl
  have hh1:h<2 ^ (64 - n):=by
    apply Int.lt_of_mul_lt_mul_right (a:=(2:Int) ^ n) _ (by omega)
    rw [Int.mul_comm (2 ^ (64 - n))];rw [kK];exact hk
  have hh2:h * (2:Int) ^ n+2 ^ n≤18446744073709551616:=by
    have:(h+1) * (2:Int) ^ n≤2 ^ (64 - n) * 2 ^ n:=Int.mul_le_mul_of_nonneg_right (by omega) (by omega)
    rw [Int.add_mul,Int.one_mul,Int.mul_comm (2 ^ (64 - n)),kK] at this;exact this
  have mh:h * (2:Int) ^ n % 2 ^ n=0:=Int.mul_emod_left _ _
  have hik:0≤h * (2:Int) ^ n:=Int.mul_nonneg a1 (by omega)
  have lq0:0≤l / (2:Int) ^ (64 - n):=Int.ediv_nonneg b1 (by omega)
  have lq1:l / (2:Int) ^ (64 - n)<2 ^ n:=Int.ediv_lt_of_lt_mul Kp (by rw [kK];exact b2)
  have ediv:l * (2:Int) ^ n / 18446744073709551616=l / 2 ^ (64 - n):=by
    rw [← kK,Int.mul_comm l];exact Int.mul_ediv_mul_of_pos _ _ kp
  have em:=Int.mul_ediv_add_emod (l * (2:Int) ^ n) 18446744073709551616
  have em0:=Int.emod_nonneg (l * (2:Int) ^ n) (show (18446744073709551616:Int) ≠ 0 by decide)
  have em1:=Int.emod_lt_of_pos (l * (2:Int) ^ n) (show (0:Int)<18446744073709551616 by decide)
  rw [ediv] at em
  have ev:val h l * 2 ^ n=(h * 2 ^ n+l / 2 ^ (64 - n)) * 18446744073709551616+l * 2 ^ n % 18446744073709551616:=by
    unfold val
    rw [Int.add_mul,Int.mul_right_comm]
    generalize h * (2:Int) ^ n=A at *
    generalize l * (2:Int) ^ n=L at *
    generalize l / (2:Int) ^ (64 - n)=Q at *
    omega
  rw [keep64z _ hik hk,or_join n _ _ hik mh hk lq0 lq1 (by omega),IntKind.wrap_u64]
  unfold hiZ loZ In2
  rw [ev]
  generalize h * (2:Int) ^ n=A at *
  generalize l * (2:Int) ^ n % 18446744073709551616=L at *
  generalize l / (2:Int) ^ (64 - n)=Q at *
  exact ⟨by omega,by omega,by omega,by omega⟩
theorem shr1_words (h l:Int) (hh:Word h) (hl:Word l) :
    bits BinOp.or IntKind.u64 (IntKind.u64.wrap (h * 9223372036854775808)) (l / 2)=loZ (val h l / 2)∧h / 2=hiZ (val h l / 2):=by
  obtain ⟨a1,a2⟩:=hh;obtain ⟨b1,b2⟩:=hl
  have e:IntKind.u64.wrap (h * 9223372036854775808)=h % 2 * 9223372036854775808:=by rw [IntKind.wrap_u64];omega
  have p63:(2:Int) ^ 63=9223372036854775808:=by decide
  rw [e,or_join 63 _ _ (by omega) (by rw [p63];omega) (by omega) (by omega) (by rw [p63];omega) (by omega)]
  unfold hiZ loZ val
  exact ⟨by omega,by omega⟩

theorem bits_hi (h l:Int) (hh:Word h) (h0:h ≠ 0) (w:World) :
    Calls Tryz.prog 132 #[.agg #[.int .u64 h,.int .u64 l]] w fun e w'=>e=.returned (.int .i64 (128 - lz h))∧Up w w':=by
  have t:(h != 0)=true:=bne_iff_ne.2 h0
  have hb:=lz_bound hh
  have HE:=Lib.hid (show 64+(Lib.bitLen h.toNat:Int)=128 - lz h by unfold lz;omega)
  have k0:0≤(Lib.bitLen h.toNat:Int):=by omega
  have k1:(Lib.bitLen h.toNat:Int)≤64:=by unfold lz at hb;omega
  clear h0 hb
  generalize hg:(Lib.bitLen h.toNat:Int)=g at k0 k1
  have HG:=Lib.hid hg
  clear hg
  go_enter Tryz.func132,Tryz.ntmps132
  go_wp2_with fail
  refine (len64_any h hh _).mono ?_
  rintro e w' ⟨rfl,rfl⟩
  rw [HG.out]
  go_wp2
  go_ret
  refine ⟨by rw [← HE.out,HG.out];rfl,?_⟩
  repeat (first | exact Up.refl _ | refine Up.alloc ?_ _ _ | refine Up.setCell ?_ (by first | (simp;done) | (simp;omega) | omega) _ | refine Up.drewN ?_ _ | refine Up.drew ?_)

set_option maxHeartbeats 2000000 in
set_option maxRecDepth 100000 in
theorem left_norm (h l:Int) (hh:Word h) (hl:Word l) (h0:h ≠ 0) (w:World) :
    Calls Tryz.prog 128 #[.agg #[.int .u64 h,.int .u64 l],.int .i64 (lz h)] w fun e w'=>e=got2 (val h l * 2 ^ (lz h).toNat) true∧Up w w':=by
  have s0:=(lz_bound hh).1
  have s1:=lz_pos hh h0
  have hk:=(lz_spec hh h0).2
  rw [pow_cast] at hk
  obtain ⟨e1,e2,e3⟩:=shl_words h l (lz h) hh hl s0 s1 hk
  have tz:=zB_no (show val h l ≠ 0 by obtain ⟨a1,_⟩:=hh;obtain ⟨b1,_⟩:=hl;unfold val;omega)
  generalize hX:hiZ (val h l * 2 ^ (lz h).toNat)=X at e1
  generalize hY:loZ (val h l * 2 ^ (lz h).toNat)=Y at e2
  have HX:=Lib.hid hX
  have HY:=Lib.hid hY
  clear hX hY e3 hk
  have hbits:=fun w=>bits_hi h l hh h0 w
  have HB:=Lib.hid hbits
  clear hbits h0
  generalize lz h=s at *
  have hw:IntKind.i64.wrap (64 - s)=64 - s:=IntWalk.i64_in _ (by omega)
  have t1:decide (s<0)=false:=decide_eq_false (by omega)
  have t2:decide (64≤s)=false:=decide_eq_false (by omega)
  go_enter Tryz.func128,Tryz.ntmps128
  go_wp2_with fail
  refine (isZero_up h l hh hl _).mono ?_
  rintro e w1 ⟨rfl,hu1⟩
  have d0:=hu1.keep w.heap.size 0 (.int .u64 h) (by simp [go_sem])
  have d1:=hu1.keep w.heap.size 1 (.int .u64 l) (by simp [go_sem])
  have l1:=hu1.size
  simp at l1
  have p0:w.heap.size<w1.heap.size:=by omega
  go_wp2_with fail
  refine (HB.out _).mono ?_
  rintro e w2 ⟨rfl,hu2⟩
  have hu:=hu1.trans hu2
  have l2:=hu2.size
  have c0:=hu2.keep _ _ _ d0
  have c1:=hu2.keep _ _ _ d1
  have r0:=hu.keep (w.heap.size+1) 0 (.int .u64 0) (by simp [go_sem])
  have r1:=hu.keep (w.heap.size+1) 1 (.int .u64 0) (by simp [go_sem])
  have up:Up w w2:=by
    refine Up.trans ?_ hu
    repeat (first | exact Up.refl _ | refine Up.alloc ?_ _ _ | refine Up.setCell ?_ (by first | (simp;done) | (simp;omega) | omega) _ | refine Up.drewN ?_ _ | refine Up.drew ?_)
  have z0:w2.frozen? ⟨w.heap.size+1,0,none⟩=false:=up.own 1 0
  have z1:w2.frozen? ⟨w.heap.size+1,1,none⟩=false:=up.own 1 1
  have HU:=Lib.hid up
  clear hu1 hu2 hu up d0 d1
  have t3:decide (128 - (128 - s)<s)=false:=decide_eq_false (by omega)
  go_wp2_with fail
  go_region
  go_wp2_with fail
  refine bodyPost_ret (v:=.tuple #[.agg #[.int .u64 X,.int .u64 Y],.bool true]) (by simp [results,Tryz.results128,go_sem,r0,r1]) rfl ⟨?_,?_⟩
  · unfold got2;rw [HX.out,HY.out]
  · repeat (first | exact Up.refl _ | (refine Up.trans ?_ (HU.out);skip) | refine Up.alloc ?_ _ _ | refine Up.setCell ?_ (by first | (simp;done) | (simp;omega) | omega) _ | refine Up.drewN ?_ _ | refine Up.drew ?_)

set_option maxHeartbeats 2000000 in
set_option maxRecDepth 100000 in
theorem right1 (h l:Int) (hh:Word h) (hl:Word l) (w:World) :
    Calls Tryz.prog 129 #[.agg #[.int .u64 h,.int .u64 l],.int .i64 1] w fun e w'=>e=.returned (.agg #[.int .u64 (hiZ (val h l / 2)),.int .u64 (loZ (val h l / 2))])∧Up w w':=by
  obtain ⟨e1,e2⟩:=shr1_words h l hh hl
  obtain ⟨a1,a2⟩:=id hh;obtain ⟨b1,b2⟩:=id hl
  generalize hX:hiZ (val h l / 2)=X at e2
  generalize hY:loZ (val h l / 2)=Y at e1
  clear hX hY
  go_enter Tryz.func129,Tryz.ntmps129
  go_wp2_with fail
  go_region
  go_wp2_with fail
  refine bodyPost_ret (v:=.agg #[.int .u64 X,.int .u64 Y]) (by simp [results,Tryz.results129,go_sem]) rfl ⟨?_,?_⟩
  · rfl
  · repeat (first | exact Up.refl _ | refine Up.alloc ?_ _ _ | refine Up.setCell ?_ (by first | (simp;done) | (simp;omega) | omega) _ | refine Up.drewN ?_ _ | refine Up.drew ?_)

end Go.Proofs.YtafkoddgefcpnaaGreat
