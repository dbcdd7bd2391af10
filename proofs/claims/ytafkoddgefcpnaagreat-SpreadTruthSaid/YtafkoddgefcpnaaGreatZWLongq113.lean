/- What wide.divLong returns. -/
import Derived.Test.YtafkoddgefcpnaaGreatRows
import Derived.Test.YtafkoddgefcpnaaGreatZWMul2q112
import Derived.Test.YtafkoddgefcpnaaGreatZWShiftq111
namespace Go.Proofs.YtafkoddgefcpnaaGreat
open Go.RowKit

theorem div64_v (x y:Int) (hx:In2 x) (hy:Word y) (h:hiZ x<y) (w:World) :
    Calls Tryz.prog 126 #[.int .u64 (hiZ x),.int .u64 (loZ x),.int .u64 y] w fun e w' =>
      e=.returned (.tuple #[.int .u64 (x / y),.int .u64 (x % y)])∧∃ n,w'=w.drewN n:=by
  have h:=div64_up (hiZ x) (loZ x) y (hiZ_word hx) (loZ_word x) hy h w
  rw [val_hilo] at h
  exact h

/-- The estimate, less 1, is the quotient or one less. -/
theorem long_p (ah al bh bl:Int) (h1:Word ah) (h2:Word al) (h3:Word bh) (h4:Word bl) (hb:bh ≠ 0) :
    ∃ p:Int,Word p∧(val ah al / 2 / hiZ (val bh bl * 2 ^ (lz bh).toNat) / 2 ^ (63 - lz bh).toNat=p+1∨(val ah al / 2 / hiZ (val bh bl * 2 ^ (lz bh).toNat) / 2 ^ (63 - lz bh).toNat=0∧p=0)) ∧
      p≤val ah al / val bh bl∧val ah al / val bh bl≤p+1∧p+1<18446744073709551616 ∧
      hiZ (val ah al / 2)<hiZ (val bh bl * 2 ^ (lz bh).toNat)∧Word (hiZ (val bh bl * 2 ^ (lz bh).toNat)) ∧
      0≤val ah al / 2 / hiZ (val bh bl * 2 ^ (lz bh).toNat)∧val ah al / 2 / hiZ (val bh bl * 2 ^ (lz bh).toNat)<18446744073709551616:=by
  have s0:=(lz_bound h3).1
  have s1:=lz_pos h3 hb
  have hk:=lz_spec h3 hb
  rw [pow_cast] at hk
  have hw:=(shl_words bh bl (lz bh) h3 h4 s0 s1 hk.2).2.2
  have hia:=val_in h1 h2
  obtain ⟨c1,c2⟩:=id h3;obtain ⟨d1,d2⟩:=id h4
  generalize lz bh=s at *
  have kp:(0:Int)<2 ^ s.toNat:=by rw [← pow_cast];have:0<2 ^ s.toNat:=Nat.pow_pos (by decide);omega
  have cp:(0:Int)<2 ^ (63 - s).toNat:=by rw [← pow_cast];have:0<2 ^ (63 - s).toNat:=Nat.pow_pos (by decide);omega
  have kc:(2:Int) ^ s.toNat * 2 ^ (63 - s).toNat=9223372036854775808:=by
    rw [← pow_cast,← pow_cast,← Int.natCast_mul,← Nat.pow_add,show s.toNat+(63 - s).toNat=63 by omega];rfl
  have hf1:9223372036854775808≤hiZ (val bh bl * 2 ^ s.toNat):=by
    unfold hiZ val
    rw [Int.le_ediv_iff_mul_le (by decide),Int.add_mul,Int.mul_right_comm]
    have:0≤bl * (2:Int) ^ s.toNat:=Int.mul_nonneg d1 (by omega)
    have:=hk.1
    omega
  have hfw:=hiZ_word hw
  have hvb:18446744073709551616≤val bh bl:=by unfold val;omega
  obtain ⟨e1,e2⟩:=long_est (a:=val ah al) (b:=val bh bl) (k:=2 ^ s.toNat) (c:=2 ^ (63 - s).toNat) (f:=hiZ (val bh bl * 2 ^ s.toNat)) hia.1 hia.2 hvb cp kc rfl hf1
  have hhalf:hiZ (val ah al / 2)<9223372036854775808:=by unfold hiZ In2 at *;omega
  have q0:0≤val ah al / 2 / hiZ (val bh bl * 2 ^ s.toNat):=Int.ediv_nonneg (by unfold In2 at hia;omega) (by omega)
  have q1:val ah al / 2 / hiZ (val bh bl * 2 ^ s.toNat)<18446744073709551616:=by
    apply Int.ediv_lt_of_lt_mul (by omega)
    have:18446744073709551616 * 9223372036854775808≤18446744073709551616 * hiZ (val bh bl * 2 ^ s.toNat):=by omega
    unfold In2 at hia
    omega
  have Q0:0≤val ah al / 2 / hiZ (val bh bl * 2 ^ s.toNat) / 2 ^ (63 - s).toNat:=Int.ediv_nonneg q0 (by omega)
  have Q1:val ah al / 2 / hiZ (val bh bl * 2 ^ s.toNat) / 2 ^ (63 - s).toNat≤val ah al / 2 / hiZ (val bh bl * 2 ^ s.toNat):=Int.ediv_le_self _ q0
  have hq:val ah al / val bh bl<18446744073709551616:=Int.ediv_lt_of_lt_mul (by omega) (by
    have:18446744073709551616 * 18446744073709551616≤18446744073709551616 * val bh bl:=by omega
    unfold In2 at hia;omega)
  have hq0:0≤val ah al / val bh bl:=Int.ediv_nonneg hia.1 (by omega)
  generalize val ah al / 2 / hiZ (val bh bl * 2 ^ s.toNat) / 2 ^ (63 - s).toNat=Q at *
  by_cases hz:Q=0
  · exact ⟨0,word_0,Or.inr ⟨hz,rfl⟩,by omega,by omega,by omega,by omega,hfw,q0,q1⟩
  · exact ⟨Q - 1,⟨by omega,by omega⟩,Or.inl (by omega),by omega,by omega,by omega,by omega,hfw,q0,q1⟩

/-- What is left tells which of the two it is. -/
theorem long_rest {a b p:Int} (ha:In2 a) (hb0:0<b) (hp:0≤p) (h1:p≤a / b) (h2:a / b≤p+1) :
    In2 (p * b)∧In2 (a - p * b)∧(b≤a - p * b→a / b=p+1∧a % b=a - p * b - b)∧(a - p * b<b→a / b=p∧a % b=a - p * b):=by
  have e:=Int.mul_ediv_add_emod a b
  have m0:=Int.emod_nonneg a (show b ≠ 0 by omega)
  have m1:=Int.emod_lt_of_pos a hb0
  obtain ⟨ha0,ha1⟩:=ha
  have p0:0≤p * b:=Int.mul_nonneg hp (by omega)
  have p1:p * b≤a / b * b:=Int.mul_le_mul_of_nonneg_right h1 (by omega)
  rw [Int.mul_comm] at e
  rcases (by omega:a / b=p∨a / b=p+1) with h | h
  · rw [h] at e p1 ⊢
    generalize p * b=t at *
    generalize a % b=r at *
    unfold In2
    refine ⟨⟨by omega,by omega⟩,⟨by omega,by omega⟩,fun _=>by omega,fun _=>⟨rfl,by omega⟩⟩
  · rw [h] at e p1 ⊢
    rw [Int.add_mul,Int.one_mul] at e p1
    generalize p * b=t at *
    generalize a % b=r at *
    unfold In2
    refine ⟨⟨by omega,by omega⟩,⟨by omega,by omega⟩,fun _=>⟨rfl,by omega⟩,fun _=>by omega⟩

set_option maxHeartbeats 4000000 in
set_option maxRecDepth 100000 in
theorem divLong_up (ah al bh bl:Int) (h1:Word ah) (h2:Word al) (h3:Word bh) (h4:Word bl) (hb:bh ≠ 0) (w:World) :
    Calls Tryz.prog 123 #[.agg #[.int .u64 ah,.int .u64 al],.agg #[.int .u64 bh,.int .u64 bl]] w fun e w' =>
      e=.returned (.tuple #[.int .u64 (val ah al / val bh bl),.agg #[.int .u64 (hiZ (val ah al % val bh bl)),.int .u64 (loZ (val ah al % val bh bl))]])∧Up w w':=by
  obtain ⟨p,hp,hQ,p1,p2,p3,f1,f2,x1,x2⟩:=long_p ah al bh bl h1 h2 h3 h4 hb
  have hvb:0<val bh bl:=by obtain ⟨c1,_⟩:=h3;obtain ⟨d1,_⟩:=h4;unfold val;omega
  obtain ⟨i1,i2,j1,j2⟩:=long_rest (val_in h1 h2) hvb hp.1 p1 p2
  have HL:=Lib.hid (left_norm bh bl h3 h4 hb)
  have s0:=(lz_bound h3).1
  have s1:=lz_pos h3 hb
  have hhalf:In2 (val ah al / 2):=by have:=val_in h1 h2;unfold In2 at *;omega
  generalize hF:hiZ (val bh bl * 2 ^ (lz bh).toNat)=f at *
  have HF:=Lib.hid hF
  generalize hG:loZ (val bh bl * 2 ^ (lz bh).toNat)=g0 at *
  have HG:=Lib.hid hG
  clear hF hG
  have HZ:=Lib.hid (lead_any bh h3)
  clear hb
  generalize lz bh=s at *
  have HQ:=Lib.hid hQ
  have HJ:=Lib.hid (And.intro j1 j2)
  obtain ⟨y0,y1⟩:=id hp
  clear hQ j1 j2 p1 p2
  go_enter Tryz.func123,Tryz.ntmps123
  go_wp2_with fail
  refine (HZ.out _).mono ?_
  rintro e w' ⟨rfl,rfl⟩
  go_wp2_with fail
  refine (HL.out _).mono ?_
  rintro e w1 ⟨rfl,hu1⟩
  unfold got2
  rw [HF.out,HG.out]
  have a0:=hu1.keep w.heap.size 0 (.int .u64 ah) (by simp [go_sem])
  have a1:=hu1.keep w.heap.size 1 (.int .u64 al) (by simp [go_sem])
  have b0:=hu1.keep (w.heap.size+1) 0 (.int .u64 bh) (by simp [go_sem])
  have b1:=hu1.keep (w.heap.size+1) 1 (.int .u64 bl) (by simp [go_sem])
  have r0:=hu1.keep (w.heap.size+1+1) 0 (.int .u64 0) (by simp [go_sem])
  have r1:=hu1.keep (w.heap.size+1+1) 1 (.int .u64 0) (by simp [go_sem])
  have up1:Up w w1:=by
    refine Up.trans ?_ hu1
    repeat (first | exact Up.refl _ | refine Up.alloc ?_ _ _ | refine Up.setCell ?_ (by first | (simp;done) | (simp;omega) | omega) _ | refine Up.drewN ?_ _ | refine Up.drew ?_)
  have HU1:=Lib.hid up1
  have l1:=hu1.size
  simp at l1
  have k0:w.heap.size<w1.heap.size:=by omega
  have k1:w.heap.size+1<w1.heap.size:=by omega
  have k2:w.heap.size+1+1<w1.heap.size:=by omega
  clear hu1 up1
  go_wp2_with fail
  refine (right1 ah al h1 h2 _).mono ?_
  rintro e w2 ⟨rfl,hu2⟩
  have a0':=hu2.keep w.heap.size 0 (.int .u64 ah) (by simp [go_sem, *])
  have a1':=hu2.keep w.heap.size 1 (.int .u64 al) (by simp [go_sem, *])
  have b0':=hu2.keep (w.heap.size+1) 0 (.int .u64 bh) (by simp [go_sem, *])
  have b1':=hu2.keep (w.heap.size+1) 1 (.int .u64 bl) (by simp [go_sem, *])
  have r0':=hu2.keep (w.heap.size+1+1) 0 (.int .u64 0) (by simp [go_sem, *])
  have r1':=hu2.keep (w.heap.size+1+1) 1 (.int .u64 0) (by simp [go_sem, *])
  have f0':=hu2.keep w1.heap.size 0 (.int .u64 f) (by simp [go_sem, *])
  have up2:Up w w2:=by
    refine Up.trans ?_ hu2
    repeat (first | exact Up.refl _ | (refine Up.trans ?_ (HU1.out);skip) | refine Up.alloc ?_ _ _ | refine Up.setCell ?_ (by first | (simp;done) | (simp;omega) | omega) _ | refine Up.drewN ?_ _ | refine Up.drew ?_)
  have HU2:=Lib.hid up2
  have l2:=hu2.size
  simp at l2
  have k0':w.heap.size<w2.heap.size:=by omega
  have k1':w.heap.size+1<w2.heap.size:=by omega
  have k2':w.heap.size+1+1<w2.heap.size:=by omega
  have k3':w1.heap.size<w2.heap.size:=by omega
  clear hu2 up2 a0 a1 b0 b1 r0 r1
  go_wp2_with fail
  refine (div64_v (val ah al / 2) f hhalf f2 f1 _).mono ?_
  rintro e w3 ⟨rfl,n,rfl⟩
  go_upto_if 44 with (fail)
  go_cut [10] (fun t wx=>t=.int .u64 p∧Up w wx∧wx.cell? ⟨w.heap.size,0,none⟩=some (.int .u64 ah)∧wx.cell? ⟨w.heap.size,1,none⟩=some (.int .u64 al)∧wx.cell? ⟨w.heap.size+1,0,none⟩=some (.int .u64 bh)∧wx.cell? ⟨w.heap.size+1,1,none⟩=some (.int .u64 bl)∧wx.cell? ⟨w.heap.size+1+1,0,none⟩=some (.int .u64 0)∧wx.cell? ⟨w.heap.size+1+1,1,none⟩=some (.int .u64 0))
  case first =>
    have up3:Up w ((w2.alloc (.cells #[.int .u64 (hiZ (val ah al / 2)),.int .u64 (loZ (val ah al / 2))] 92)).drewN n):=by
      repeat (first | exact Up.refl _ | (refine Up.trans ?_ (HU2.out);skip) | refine Up.alloc ?_ _ _ | refine Up.setCell ?_ (by first | (simp;done) | (simp;omega) | omega) _ | refine Up.drewN ?_ _ | refine Up.drew ?_)
    rcases HQ.out with hq | ⟨hq,hp0⟩
    · have t0:(p+1 != 0)=true:=bne_iff_ne.2 (by omega)
      rw [hq]
      go_wp2_with fail
      go_meet
      exact ⟨rfl,up3,by simp [go_sem, *],by simp [go_sem, *],by simp [go_sem, *],by simp [go_sem, *],by simp [go_sem, *],by simp [go_sem, *]⟩
    · rw [hq]
      go_wp2_with fail
      go_meet
      exact ⟨by rw [hp0],up3,by simp [go_sem, *],by simp [go_sem, *],by simp [go_sem, *],by simp [go_sem, *],by simp [go_sem, *],by simp [go_sem, *]⟩
  obtain ⟨rfl,hup,a0,a1,b0,b1,r0,r1⟩:=hcut
  have HUP:=Lib.hid hup
  clear hup HL HZ HF HG HU1 HU2 HQ f0' a0' a1' b0' b1' r0' r1' f1 f2 x1 x2 hhalf
  have lr:w.heap.size+1+1<wc.heap.size:=World.block_lt_of_cell? _ _ r0
  go_upto_region 8 with fail
  go_cut [12] (fun t12 wx=>∃ g:Nat,t12=.pointer (some ⟨g,0,none⟩)∧wx.cell? ⟨g,0,none⟩=some (.int .u64 (hiZ (p * val bh bl)))∧wx.cell? ⟨g,1,none⟩=some (.int .u64 (loZ (p * val bh bl))) ∧
    Up wc wx∧wx.cell? ⟨w.heap.size+1,0,none⟩=some (.int .u64 bh)∧wx.cell? ⟨w.heap.size+1,1,none⟩=some (.int .u64 bl))
  case first =>
    have HM:=Lib.hid (show ∀ W,Calls Tryz.prog 130 #[.agg #[.int .u64 0,.int .u64 p],.agg #[.int .u64 bh,.int .u64 bl]] W fun e w'=>e=got2 (p * val bh bl) true∧Up W w' from fun W=>by
      have h:=mul_up 0 p bh bl word_0 hp h3 h4 W
      rw [show val 0 p=p by unfold val;omega,fit2_yes i1,fits2_yes i1] at h
      exact h)
    go_region_held3 (fun w'=>Up wc w'∧w'.cell? ⟨w.heap.size+1,0,none⟩=some (.int .u64 bh)∧w'.cell? ⟨w.heap.size+1,1,none⟩=some (.int .u64 bl))
      (first | (exact keep2 (by assumption) (by assumption)) | (repeat (first | assumption | (exact Hid.out (by assumption)) | (exact ⟨Up.refl _,b0,b1⟩) | (refine keep2 (Lib.hid ((Up.refl _).alloc _ _)) ?_) | (refine keep2 (Lib.hid (Up.refl _).drew) ?_) | (refine set2 ?_ (by omega) (by omega) (by omega)))))
      (first
        | (go_at_call 60;(with_reducible refine (of_up p _).mono ?_);rintro e w5 ⟨rfl,hu5⟩;have HU5:=Lib.hid hu5;have HS5:=Lib.hid (keep2 HU5 (by assumption));obtain ⟨hc5,hz5⟩:=hu5.cells;have hs5:=hu5.size;(try simp at hs5);clear hu5;(try unfold got2);(try (have p5_0:wc.heap.size<w5.heap.size:=by omega)))
        | (go_at_call 130;(with_reducible refine (HM.out _).mono ?_);rintro e w6 ⟨rfl,hu6⟩;have HU6:=Lib.hid hu6;have HS6:=Lib.hid (keep2 HU6 (by assumption));obtain ⟨hc6,hz6⟩:=hu6.cells;have hs6:=hu6.size;(try simp at hs6);clear hu6;(try unfold got2);(try (have p6_0:wc.heap.size<w6.heap.size:=by omega));(try (have p6_1:w5.heap.size<w6.heap.size:=by omega)))
        )
    all_goals
      go_wp2_with fail
      go_meet
      refine ⟨_,rfl,?_,?_,by assumption⟩
      all_goals simp [go_sem, *]
  obtain ⟨g,rfl,g1,g2,hup4,b0',b1'⟩:=hcut
  have A0:=hup4.keep _ _ _ a0
  have A1:=hup4.keep _ _ _ a1
  have R0:=hup4.keep _ _ _ r0
  have R1:=hup4.keep _ _ _ r1
  have HUP4:=Lib.hid (HUP.out.trans hup4)
  have k2:w.heap.size+1+1<wc.heap.size:=World.block_lt_of_cell? _ _ R0
  have k1:w.heap.size+1<wc.heap.size:=by omega
  have k0:w.heap.size<wc.heap.size:=by omega
  have HS:=Lib.hid (show ∀ W,Calls Tryz.prog 95 #[.agg #[.int .u64 ah,.int .u64 al],.agg #[.int .u64 (hiZ (p * val bh bl)),.int .u64 (loZ (p * val bh bl))]] W fun e w'=>e=got2 (val ah al - p * val bh bl) true∧Up W w' from fun W=>by
    have h:=sub_up ah al (hiZ (p * val bh bl)) (loZ (p * val bh bl)) h1 h2 (hiZ_word i1) (loZ_word _) W
    rw [val_hilo,fit2_yes i2,fits2_yes i2] at h
    exact h)
  have HT:=Lib.hid (show ∀ W,Calls Tryz.prog 95 #[.agg #[.int .u64 (hiZ (val ah al - p * val bh bl)),.int .u64 (loZ (val ah al - p * val bh bl))],.agg #[.int .u64 bh,.int .u64 bl]] W fun e w'=>e=got2 (fit2 (val ah al - p * val bh bl - val bh bl)) (fits2 (val ah al - p * val bh bl - val bh bl))∧Up W w' from fun W=>by
    have h:=sub_up (hiZ (val ah al - p * val bh bl)) (loZ (val ah al - p * val bh bl)) bh bl (hiZ_word i2) (loZ_word _) h3 h4 W
    rw [val_hilo] at h
    exact h)
  have hvi:=val_in h3 h4
  clear hup4 a0 a1 b0 b1 r0 r1 HUP i1
  clear k0' k1' k2' k3' l1 l2 lr
  go_wp2_with fail
  refine (HS.out _).mono ?_
  rintro e w6 ⟨rfl,hu6⟩
  unfold got2
  have C0:=hu6.keep _ _ _ b0'
  have C1:=hu6.keep _ _ _ b1'
  have T0:=hu6.keep _ _ _ R0
  have T1:=hu6.keep _ _ _ R1
  have HU6:=Lib.hid (HUP4.out.trans hu6)
  have k2':w.heap.size+1+1<w6.heap.size:=World.block_lt_of_cell? _ _ T0
  have k1':w.heap.size+1<w6.heap.size:=by omega
  clear hu6
  by_cases hge:val bh bl≤val ah al - p * val bh bl
  · obtain ⟨e1,e2⟩:=HJ.out.1 hge
    have hi:In2 (val ah al - p * val bh bl - val bh bl):=by unfold In2 at *;omega
    have H1:=Lib.hid (fit2_yes hi)
    have H2:=Lib.hid (fits2_yes hi)
    have H3:=Lib.hid e1
    have H4:=Lib.hid e2
    clear hge e1 e2 hi
    go_wp2_with fail
    refine (HT.out _).mono ?_
    rintro e w7 ⟨rfl,hu7⟩
    unfold got2
    rw [H1.out,H2.out]
    have U0:=hu7.keep (w.heap.size+1+1) 0 (.int .u64 0) (by simp [go_sem, *])
    have U1:=hu7.keep (w.heap.size+1+1) 1 (.int .u64 0) (by simp [go_sem, *])
    have up7:Up w w7:=by
      refine Up.trans ?_ hu7
      repeat (first | exact Up.refl _ | (refine Up.trans ?_ (HU6.out);skip) | refine Up.alloc ?_ _ _ | refine Up.setCell ?_ (by first | (simp;done) | (simp;omega) | omega) _ | refine Up.drewN ?_ _ | refine Up.drew ?_)
    have HU7:=Lib.hid up7
    have z0:=up7.own 2 0
    have z1:=up7.own 2 1
    rw [show w.heap.size+2=w.heap.size+1+1 by omega] at z0 z1
    have k3:w.heap.size+1+1<w7.heap.size:=World.block_lt_of_cell? _ _ U0
    have k4:¬ w.heap.size+1+1=w7.heap.size:=by omega
    have k5:¬ w7.heap.size=w.heap.size+1+1:=by omega
    clear hu7 up7
    go_wp2_with fail
    go_region
    go_wp2_with fail
    refine bodyPost_ret (v:=.tuple #[.int .u64 (p+1),.agg #[.int .u64 (hiZ (val ah al - p * val bh bl - val bh bl)),.int .u64 (loZ (val ah al - p * val bh bl - val bh bl))]]) (by simp [results,Tryz.results123,go_sem,U0,U1,k3]) rfl ⟨?_,?_⟩
    · rw [H3.out,H4.out]
    · repeat (first | exact Up.refl _ | (refine Up.trans ?_ (HU7.out);skip) | refine Up.alloc ?_ _ _ | refine Up.setCell ?_ (by first | (simp;done) | (simp;omega) | omega) _ | refine Up.drewN ?_ _ | refine Up.drew ?_)
  · obtain ⟨e1,e2⟩:=HJ.out.2 (by omega)
    have hi:¬ In2 (val ah al - p * val bh bl - val bh bl):=by unfold In2 at *;omega
    have H1:=Lib.hid (fit2_no hi)
    have H2:=Lib.hid (fits2_no hi)
    have H3:=Lib.hid e1
    have H4:=Lib.hid e2
    clear hge e1 e2 hi
    go_wp2_with fail
    refine (HT.out _).mono ?_
    rintro e w7 ⟨rfl,hu7⟩
    unfold got2
    rw [H1.out,H2.out]
    have U0:=hu7.keep (w.heap.size+1+1) 0 (.int .u64 0) (by simp [go_sem, *])
    have U1:=hu7.keep (w.heap.size+1+1) 1 (.int .u64 0) (by simp [go_sem, *])
    have V0:=hu7.keep w6.heap.size 0 (.int .u64 (hiZ (val ah al - p * val bh bl))) (by simp [go_sem, *])
    have V1:=hu7.keep w6.heap.size 1 (.int .u64 (loZ (val ah al - p * val bh bl))) (by simp [go_sem, *])
    have up7:Up w w7:=by
      refine Up.trans ?_ hu7
      repeat (first | exact Up.refl _ | (refine Up.trans ?_ (HU6.out);skip) | refine Up.alloc ?_ _ _ | refine Up.setCell ?_ (by first | (simp;done) | (simp;omega) | omega) _ | refine Up.drewN ?_ _ | refine Up.drew ?_)
    have HU7:=Lib.hid up7
    have z0:=up7.own 2 0
    have z1:=up7.own 2 1
    rw [show w.heap.size+2=w.heap.size+1+1 by omega] at z0 z1
    have k3:w.heap.size+1+1<w7.heap.size:=World.block_lt_of_cell? _ _ U0
    have k6:w6.heap.size<w7.heap.size:=World.block_lt_of_cell? _ _ V0
    clear hu7 up7
    go_wp2_with fail
    go_region
    go_wp2_with fail
    refine bodyPost_ret (v:=.tuple #[.int .u64 p,.agg #[.int .u64 (hiZ (val ah al - p * val bh bl)),.int .u64 (loZ (val ah al - p * val bh bl))]]) (by simp [results,Tryz.results123,go_sem,U0,U1,k3]) rfl ⟨?_,?_⟩
    · rw [H3.out,H4.out]
    · repeat (first | exact Up.refl _ | (refine Up.trans ?_ (HU7.out);skip) | refine Up.alloc ?_ _ _ | refine Up.setCell ?_ (by first | (simp;done) | (simp;omega) | omega) _ | refine Up.drewN ?_ _ | refine Up.drew ?_)

end Go.Proofs.YtafkoddgefcpnaaGreat
