/- Texts of these claims, one after the other. -/
import Derived.Test.YtafkoddgefcpnaaGreatRows
import Derived.Test.YtafkoddgefcpnaaGreatZWCmpq8
namespace Go.Proofs.YtafkoddgefcpnaaGreat
open Go.RowKit

theorem low32n (a:Nat) (ha:a<18446744073709551616):bits .and .u64 (a:Int) 4294967295=((a % 4294967296:Nat):Int):=by
  have h:=bits_and_u64_nat a 4294967295 ha (by omega)
  rw [show a &&& 4294967295=a % 4294967296 from Nat.and_two_pow_sub_one_eq_mod a 32] at h
  exact h
theorem high32 (a:Nat):(a:Int) / 4294967296=((a / 4294967296:Nat):Int):=by omega
theorem upMul (a b:Nat):(a:Int) * (b:Int)=((a * b:Nat):Int):=(Int.natCast_mul a b).symm
theorem upAdd (a b:Nat):(a:Int)+(b:Int)=((a+b:Nat):Int):=(Int.natCast_add a b).symm
theorem keep64 (a:Nat) (ha:a<18446744073709551616):IntKind.u64.wrap (a:Int)=(a:Int):=by rw [IntKind.wrap_u64];omega
theorem cut64 (a:Nat):IntKind.u64.wrap (a:Int)=((a % 18446744073709551616:Nat):Int):=by rw [IntKind.wrap_u64];omega

set_option maxHeartbeats 1000000 in
theorem mul64_any (x y:Nat) (hx:x<18446744073709551616) (hy:y<18446744073709551616) (w:World) :
    Calls Tryz.prog 92 #[.int .u64 (x:Int),.int .u64 (y:Int)] w fun e w' =>
      e=.returned (.tuple #[.int .u64 ((x * y / 18446744073709551616:Nat):Int),.int .u64 ((x * y % 18446744073709551616:Nat):Int)])∧w=w':=by
  obtain ⟨bd,bt,bw,hhi⟩:=Go.Lib.mul64_hi x y hx hy
  have ba:=Go.Lib.half_mul_le (a:=x / 4294967296) (b:=y / 4294967296) (by omega) (by omega)
  have bb:=Go.Lib.half_mul_le (a:=x / 4294967296) (b:=y % 4294967296) (by omega) (by omega)
  have bc:=Go.Lib.half_mul_le (a:=x % 4294967296) (b:=y / 4294967296) (by omega) (by omega)
  have ba':x / 4294967296 * (y / 4294967296)<18446744073709551616:=by omega
  have bb':x / 4294967296 * (y % 4294967296)<18446744073709551616:=by omega
  have bc':x % 4294967296 * (y / 4294967296)<18446744073709551616:=by omega
  have bh1:x / 4294967296 * (y / 4294967296)+(x / 4294967296 * (y % 4294967296)+x % 4294967296 * (y % 4294967296) / 4294967296) / 4294967296<18446744073709551616:=by omega
  have bh:x / 4294967296 * (y / 4294967296)+(x / 4294967296 * (y % 4294967296)+x % 4294967296 * (y % 4294967296) / 4294967296) / 4294967296+((x / 4294967296 * (y % 4294967296)+x % 4294967296 * (y % 4294967296) / 4294967296) % 4294967296+x % 4294967296 * (y / 4294967296)) / 4294967296<18446744073709551616:=by omega
  have HH:=Lib.hid hhi
  clear hhi
  go_enter Tryz.func92,Tryz.ntmps92
  go_wp2
  simp only [low32n x hx,low32n y hy,high32,upMul,upAdd,keep64 _ bd,keep64 _ bb',keep64 _ bt,low32n _ bt,keep64 _ bc',keep64 _ bw,keep64 _ ba',keep64 _ bh1,keep64 _ bh,cut64 (x * y)]
  rw [HH.out]
  go_ret2
  exact ⟨rfl,rfl⟩

theorem mul64z (x y:Int) (hx:Word x) (hy:Word y) (w:World) :
    Calls Tryz.prog 92 #[.int .u64 x,.int .u64 y] w fun e w'=>e=.returned (.tuple #[.int .u64 (hiZ (x * y)),.int .u64 (loZ (x * y))])∧w=w':=by
  obtain ⟨a1,a2⟩:=hx;obtain ⟨b1,b2⟩:=hy
  obtain ⟨n,rfl⟩:=Int.eq_ofNat_of_zero_le a1
  obtain ⟨m,rfl⟩:=Int.eq_ofNat_of_zero_le b1
  refine (mul64_any n m (by omega) (by omega) w).mono ?_
  rintro e w' ⟨rfl,rfl⟩
  refine ⟨?_,rfl⟩
  unfold hiZ loZ
  rw [← Int.natCast_mul]
  generalize n * m=p
  congr 5 <;> omega
theorem mul_word {x y:Int} (hx:Word x) (hy:Word y):In2 (x * y):=by
  obtain ⟨a1,a2⟩:=hx;obtain ⟨b1,b2⟩:=hy
  have h1:=Int.mul_nonneg a1 b1
  have h2:x * y≤18446744073709551615 * 18446744073709551615:=Int.mul_le_mul (by omega) (by omega) b1 (by omega)
  exact ⟨h1,by omega⟩

theorem product_up (x y:Int) (hx:Word x) (hy:Word y) (w:World) :
    Calls Tryz.prog 56 #[.int .u64 x,.int .u64 y] w fun e w'=>e=.returned (.agg #[.int .u64 (hiZ (x * y)),.int .u64 (loZ (x * y))])∧Up w w':=by
  go_enter Tryz.func56,Tryz.ntmps56
  go_wp2_with fail
  refine (mul64z x y hx hy _).mono ?_
  rintro e w' ⟨rfl,rfl⟩
  go_wp2
  refine bodyPost_ret (v:=.agg #[.int .u64 (hiZ (x * y)),.int .u64 (loZ (x * y))]) (by simp [results,Tryz.results56,go_sem]) rfl ⟨?_,?_⟩
  · rfl
  · repeat (first | exact Up.refl _ | refine Up.alloc ?_ _ _ | refine Up.setCell ?_ (by first | (simp;done) | (simp;omega) | omega) _ | refine Up.drewN ?_ _ | refine Up.drew ?_)

/-! ### The comparison of two products -/
theorem rabs_any (a:Int) (ha:In a) (w:World) :
    Calls Tryz.prog 87 #[.int .i64 a] w fun e w'=>e=.returned (.int .u64 (a.natAbs:Int))∧w=w':=by
  obtain ⟨a1,a2⟩:=ha
  by_cases hn:a<0
  · have H:=Lib.hid (show -(a+1)+1=(a.natAbs:Int) by omega)
    go_enter Tryz.func87,Tryz.ntmps87
    go_wp2
    go_ret
    exact ⟨by rw [← H.out];rfl,rfl⟩
  · have H:=Lib.hid (show a=(a.natAbs:Int) by omega)
    go_enter Tryz.func87,Tryz.ntmps87
    go_wp2
    go_ret
    exact ⟨by rw [← H.out];rfl,rfl⟩

theorem mag_any (a:Int) (ha:In a) (w:World) :
    Calls Tryz.prog 108 #[.int .i64 a] w fun e w'=>e=.returned (.int .u64 (a.natAbs:Int))∧w=w':=by
  obtain ⟨a1,a2⟩:=ha
  by_cases hn:a<0
  · have H:IntKind.u64.wrap (-IntKind.u64.wrap a)=(a.natAbs:Int):=by simp only [IntKind.wrap_u64];omega
    go_enter Tryz.func108,Tryz.ntmps108
    go_wp2
    go_ret
    exact ⟨by rfl,rfl⟩
  · have H:IntKind.u64.wrap a=(a.natAbs:Int):=by simp only [IntKind.wrap_u64];omega
    go_enter Tryz.func108,Tryz.ntmps108
    go_wp2
    go_ret
    exact ⟨by first | rfl | (simp only [Ending.returned.injEq,Value.int.injEq];simp;done),rfl⟩
theorem sign_any (a:Int) (w:World) :
    Calls Tryz.prog 105 #[.int .i64 a] w fun e w'=>e=.returned (.int .i64 (cmpZ a 0))∧w=w':=by
  go_enter Tryz.func105,Tryz.ntmps105
  go_wp2_with (refine (cmp_i64 _ _ _).mono ?_;rintro e w' ⟨rfl,rfl⟩)
  go_ret
  exact ⟨rfl,rfl⟩
/-- -1, 0 or 1, as the product of a and b is to that of c and d. -/
def crossZ (a b c d:Int):Int :=
  if cmpZ a 0 * cmpZ b 0=cmpZ c 0 * cmpZ d 0 then cmpZ a 0 * cmpZ b 0 * cmpZ ((a.natAbs:Int) * (b.natAbs:Int)) ((c.natAbs:Int) * (d.natAbs:Int))
  else cmpZ (cmpZ a 0 * cmpZ b 0) (cmpZ c 0 * cmpZ d 0)
theorem unit_mul {x y:Int} (hx:-1≤x∧x≤1) (hy:-1≤y∧y≤1):-1≤x * y∧x * y≤1:=by
  rcases (by omega:x=-1∨x=0∨x=1) with h | h | h <;> subst h <;> omega
theorem abs_word {a:Int} (ha:In a):Word (a.natAbs:Int):=by obtain ⟨a1,a2⟩:=ha;exact ⟨by omega,by omega⟩

theorem compare_v (x y:Int) (hx:In2 x) (hy:In2 y) (w:World) :
    Calls Tryz.prog 107 #[.agg #[.int .u64 (hiZ x),.int .u64 (loZ x)],.agg #[.int .u64 (hiZ y),.int .u64 (loZ y)]] w fun e w'=>e=.returned (.int .i64 (cmpZ x y))∧Up w w':=by
  have h:=compare_up (hiZ x) (loZ x) (hiZ y) (loZ y) (hiZ_word hx) (loZ_word x) (hiZ_word hy) (loZ_word y) w
  rw [val_hilo,val_hilo] at h
  exact h
theorem cross_up (a b c d:Int) (ha:In a) (hb:In b) (hc:In c) (hd:In d) (w:World) :
    Calls Tryz.prog 91 #[.int .i64 a,.int .i64 b,.int .i64 c,.int .i64 d] w fun e w'=>e=.returned (.int .i64 (crossZ a b c d))∧Up w w':=by
  obtain ⟨p1,p2⟩:=unit_mul (cmpZ_bound a 0) (cmpZ_bound b 0)
  obtain ⟨q1,q2⟩:=unit_mul (cmpZ_bound c 0) (cmpZ_bound d 0)
  by_cases he:cmpZ a 0 * cmpZ b 0=cmpZ c 0 * cmpZ d 0
  · have t:(cmpZ a 0 * cmpZ b 0 != cmpZ c 0 * cmpZ d 0)=false:=bne_eq_false_iff_eq.2 he
    obtain ⟨r1,r2⟩:=unit_mul (unit_mul (cmpZ_bound a 0) (cmpZ_bound b 0)) (cmpZ_bound ((a.natAbs:Int) * (b.natAbs:Int)) ((c.natAbs:Int) * (d.natAbs:Int)))
    have H:=Lib.hid (show crossZ a b c d=cmpZ a 0 * cmpZ b 0 * cmpZ ((a.natAbs:Int) * (b.natAbs:Int)) ((c.natAbs:Int) * (d.natAbs:Int)) from if_pos he)
    clear he
    go_enter Tryz.func91,Tryz.ntmps91
    go_wp2_with fail
    refine (sign_any a _).mono ?_
    rintro e w' ⟨rfl,rfl⟩
    go_wp2_with fail
    refine (sign_any b _).mono ?_
    rintro e w' ⟨rfl,rfl⟩
    go_wp2_with fail
    refine (sign_any c _).mono ?_
    rintro e w' ⟨rfl,rfl⟩
    go_wp2_with fail
    refine (sign_any d _).mono ?_
    rintro e w' ⟨rfl,rfl⟩
    go_wp2_with fail
    refine (mag_any a ha _).mono ?_
    rintro e w' ⟨rfl,rfl⟩
    go_wp2_with fail
    refine (mag_any b hb _).mono ?_
    rintro e w' ⟨rfl,rfl⟩
    go_wp2_with fail
    refine (product_up _ _ (abs_word ha) (abs_word hb) _).mono ?_
    rintro e w1 ⟨rfl,hu1⟩
    go_wp2_with fail
    refine (mag_any c hc _).mono ?_
    rintro e w' ⟨rfl,rfl⟩
    go_wp2_with fail
    refine (mag_any d hd _).mono ?_
    rintro e w' ⟨rfl,rfl⟩
    go_wp2_with fail
    refine (product_up _ _ (abs_word hc) (abs_word hd) _).mono ?_
    rintro e w2 ⟨rfl,hu2⟩
    go_wp2_with fail
    refine (compare_v _ _ (mul_word (abs_word ha) (abs_word hb)) (mul_word (abs_word hc) (abs_word hd)) _).mono ?_
    rintro e w3 ⟨rfl,hu3⟩
    go_wp2
    go_ret
    exact ⟨by rw [H.out];rfl,(hu1.trans hu2).trans hu3⟩
  · have t:(cmpZ a 0 * cmpZ b 0 != cmpZ c 0 * cmpZ d 0)=true:=bne_iff_ne.2 he
    have H:=Lib.hid (show crossZ a b c d=cmpZ (cmpZ a 0 * cmpZ b 0) (cmpZ c 0 * cmpZ d 0) from if_neg he)
    clear he
    go_enter Tryz.func91,Tryz.ntmps91
    go_wp2_with fail
    refine (sign_any a _).mono ?_
    rintro e w' ⟨rfl,rfl⟩
    go_wp2_with fail
    refine (sign_any b _).mono ?_
    rintro e w' ⟨rfl,rfl⟩
    go_wp2_with fail
    refine (sign_any c _).mono ?_
    rintro e w' ⟨rfl,rfl⟩
    go_wp2_with fail
    refine (sign_any d _).mono ?_
    rintro e w' ⟨rfl,rfl⟩
    go_wp2_with fail
    refine (cmp_i64b _ _ _).mono ?_
    rintro e w' ⟨rfl,rfl⟩
    go_wp2
    go_ret
    exact ⟨by rw [H.out];rfl,Up.refl _⟩

end Go.Proofs.YtafkoddgefcpnaaGreat

namespace Go.Proofs.YtafkoddgefcpnaaGreat
open Go.RowKit

theorem rproduct_up (x y:Int) (hx:Word x) (hy:Word y) (w:World) :
    Calls Tryz.prog 73 #[.int .u64 x,.int .u64 y] w fun e w'=>e=.returned (.agg #[.int .u64 (hiZ (x * y)),.int .u64 (loZ (x * y))])∧Up w w':=by
  go_enter Tryz.func73,Tryz.ntmps73
  go_wp2_with fail
  refine (mul64z x y hx hy _).mono ?_
  rintro e w' ⟨rfl,rfl⟩
  go_wp2
  refine bodyPost_ret (v:=.agg #[.int .u64 (hiZ (x * y)),.int .u64 (loZ (x * y))]) (by simp [results,Tryz.results73,go_sem]) rfl ⟨?_,?_⟩
  · rfl
  · repeat (first | exact Up.refl _ | refine Up.alloc ?_ _ _ | refine Up.setCell ?_ (by first | (simp;done) | (simp;omega) | omega) _ | refine Up.drewN ?_ _ | refine Up.drew ?_)

/-! ### The comparison of two products -/
theorem rcompare_v (x y:Int) (hx:In2 x) (hy:In2 y) (w:World) :
    Calls Tryz.prog 72 #[.agg #[.int .u64 (hiZ x),.int .u64 (loZ x)],.agg #[.int .u64 (hiZ y),.int .u64 (loZ y)]] w fun e w'=>e=.returned (.int .i64 (cmpZ x y))∧Up w w':=by
  have h:=rcompare_up (hiZ x) (loZ x) (hiZ y) (loZ y) (hiZ_word hx) (loZ_word x) (hiZ_word hy) (loZ_word y) w
  rw [val_hilo,val_hilo] at h
  exact h

end Go.Proofs.YtafkoddgefcpnaaGreat
