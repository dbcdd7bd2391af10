/- Texts of these claims, one after the other. -/
import Derived.Test.YtafkoddgefcpnaaGreatRows
import Derived.Test.YtafkoddgefcpnaaGreatZWMathq1
namespace Go.Proofs.YtafkoddgefcpnaaGreat
open Go.RowKit

/-- A number of two words as a value, and a pair of it and a bool. -/
def wd (v:Int):Value:=.agg #[.int .u64 (hiZ v),.int .u64 (loZ v)]
end Go.Proofs.YtafkoddgefcpnaaGreat

namespace Go.Proofs.YtafkoddgefcpnaaGreat

/-! ### Quotients -/
theorem tmod_lt (a b:Int) (hb:b ≠ 0):-(b.natAbs:Int)<a.tmod b∧a.tmod b<b.natAbs:=by
  have h:(a.tmod b).natAbs<b.natAbs:=by
    rw [Int.natAbs_tmod];exact Nat.mod_lt _ (by omega)
  omega
theorem tmod_sign (a b:Int):(0≤a→0≤a.tmod b)∧(a≤0→a.tmod b≤0):=by
  refine ⟨fun h=>Int.tmod_nonneg b h,fun h=>?_⟩
  have h2:=Int.tmod_nonneg b (a := -a) (by omega)
  rw [Int.neg_tmod] at h2;omega
theorem tdiv_tmod (a b:Int):a.tdiv b * b+a.tmod b=a:=by
  have:=Int.tdiv_mul_add_tmod a b;omega
/-! ### The quotients rounded down and up, and the remainder -/
def flo (a b:Int):Int:=if a.tmod b ≠ 0∧¬ (a<0 ↔ b<0) then a.tdiv b - 1 else a.tdiv b
def rests (a b:Int):Int:=if b=0 then 0 else rest a b

/-- There is a remainder. -/
def hasr (b:Int):Bool:=decide (b ≠ 0)
theorem hasr_yes {b:Int} (h:b ≠ 0):hasr b=true:=by unfold hasr;exact decide_eq_true h
theorem hasr_no {b:Int} (h:b=0):hasr b=false:=by unfold hasr;exact decide_eq_false (by omega)
theorem rests_yes {a b:Int} (h:b ≠ 0):rests a b=rest a b:=by unfold rests;rw [if_neg h]
theorem rests_no {a b:Int} (h:b=0):rests a b=0:=by unfold rests;rw [if_pos h]
theorem tmod_neg_iff {a b:Int} (h:a.tmod b ≠ 0):a.tmod b<0 ↔ a<0:=by
  have:=tmod_sign a b
  omega
theorem tmod_in {a b:Int} (hb:In b) (h0:b ≠ 0):In (a.tmod b):=by
  obtain ⟨h1,h2⟩:=hb
  have:=tmod_lt a b h0
  exact ⟨by omega,by omega⟩
theorem rest_in {a b:Int} (hb:In b) (h0:b ≠ 0):In (rest a b):=by
  obtain ⟨h1,h2⟩:=hb
  have:=tmod_lt a b h0
  have:=tmod_sign a b
  unfold rest
  split
  · exact ⟨by omega,by omega⟩
  · exact ⟨by omega,by omega⟩

theorem flo_rest (a b:Int):flo a b * b+rest a b=a:=by
  have h:=tdiv_tmod a b
  unfold flo rest
  split
  · rw [Int.sub_mul,Int.one_mul];omega
  · exact h
theorem rest_pos (a b:Int) (h:0<b):0≤rest a b∧rest a b<b:=by
  have h1:=tmod_lt a b (by omega)
  have h2:=tmod_sign a b
  unfold rest
  split <;> omega
/-! ### Products -/
/-! ### The greatest common divisor -/
/-- What Gcd returns: 0 if a number is negative. -/
def gcds (x y:Int):Int:=if x<0∨y<0 then 0 else gcdZ x y
theorem gcds_neg {x y:Int} (h:x<0∨y<0):gcds x y=0:=by unfold gcds;rw [if_pos h]
theorem gcds_pos {x y:Int} (hx:0≤x) (hy:0≤y):gcds x y=gcdZ x y:=by unfold gcds;rw [if_neg (by omega)]

/-! ### Powers -/
/-! ### Square roots -/
/-! ### Binary digits -/
end Go.Proofs.YtafkoddgefcpnaaGreat

namespace Go.Proofs.YtafkoddgefcpnaaGreat
open Go.RowKit

/-- What the form says of an int64 argument. -/
theorem in_of_wf {x:Int} (h:(Lit.int .i64 x).wf=true):In x:=by
  simp [Lit.wf,IntKind.min,IntKind.max,IntKind.signed,IntKind.bits] at h
  exact ⟨by omega,by omega⟩

/-! ### The reference's sums -/
end Go.Proofs.YtafkoddgefcpnaaGreat

namespace Go.Proofs.YtafkoddgefcpnaaGreat

def In4 (v:Int):Prop:=0≤v∧v<115792089237316195423570985008687907853269984665640564039457584007913129639936
theorem g0_word (v:Int):Word (g0 v):=by unfold g0 Word;omega
theorem g1_word (v:Int):Word (g1 v):=by unfold g1 Word;omega
theorem g2_word (v:Int):Word (g2 v):=by unfold g2 Word;omega
theorem g3_word (v:Int):Word (g3 v):=by unfold g3 Word;omega
theorem W4_g {v:Int} (h:In4 v):W4 (g0 v) (g1 v) (g2 v) (g3 v)=v:=by
  unfold In4 at h;unfold W4 g0 g1 g2 g3;omega
theorem g_W4 {a b c d v:Int} (ha:Word a) (hb:Word b) (hc:Word c) (hd:Word d) (e:W4 a b c d=v):a=g0 v∧b=g1 v∧c=g2 v∧d=g3 v:=by
  unfold Word at *;unfold W4 at e;unfold g0 g1 g2 g3;omega
theorem mul_in4 {x y:Int} (hx:In2 x) (hy:In2 y):In4 (x * y):=by
  obtain ⟨x0,x1⟩:=hx;obtain ⟨y0,y1⟩:=hy
  refine ⟨Int.mul_nonneg x0 y0,?_⟩
  have h1:x * y≤340282366920938463463374607431768211455 * y:=Int.mul_le_mul_of_nonneg_right (by omega) y0
  omega
/-- One step of a product by words: no overflow. -/
theorem step_in {x y:Int} (hx:Word x) (hy:Word y):0≤x * y∧x * y≤340282366920938463426481119284349108225:=by
  obtain ⟨x0,x1⟩:=hx;obtain ⟨y0,y1⟩:=hy
  refine ⟨Int.mul_nonneg x0 y0,?_⟩
  have h1:x * y≤18446744073709551615 * y:=Int.mul_le_mul_of_nonneg_right (by omega) y0
  omega
theorem step_fits {x y p c:Int} (hx:Word x) (hy:Word y) (hp:Word p) (hc:Word c):In2 (x * y)∧In2 (x * y+p)∧In2 (x * y+p+c):=by
  have h:=step_in hx hy
  unfold Word at *;unfold In2;omega
theorem hi_lo_sum (t:Int):loZ t+hiZ t * 18446744073709551616=t:=by unfold loZ hiZ;omega
/-- The product's steps. -/
theorem prod_rows {x0 x1 y0 y1 t00 t01 t10 t11:Int} (e1:t00=x0 * y0+0+0) (e2:t01=x0 * y1+0+hiZ t00) (e3:t10=x1 * y0+loZ t01+0) (e4:t11=x1 * y1+hiZ t01+hiZ t10) :
    W4 (loZ t00) (loZ t10) (loZ t11) (hiZ t11)=val x1 x0 * val y1 y0:=by
  have s1:=hi_lo_sum t00
  have s2:=hi_lo_sum t01
  have s3:=hi_lo_sum t10
  have s4:=hi_lo_sum t11
  have ex:val x1 x0 * val y1 y0=x0 * y0+x0 * y1 * 18446744073709551616+x1 * y0 * 18446744073709551616+x1 * y1 * 340282366920938463463374607431768211456:=by
    unfold val
    have t1:x1 * 18446744073709551616 * (y1 * 18446744073709551616)=x1 * y1 * 340282366920938463463374607431768211456:=by
      rw [show x1 * 18446744073709551616 * (y1 * 18446744073709551616)=x1 * y1 * (18446744073709551616 * 18446744073709551616) by ac_rfl];rfl
    have t2:x1 * 18446744073709551616 * y0=x1 * y0 * 18446744073709551616:=by ac_rfl
    have t3:x0 * (y1 * 18446744073709551616)=x0 * y1 * 18446744073709551616:=by ac_rfl
    rw [Int.add_mul,Int.mul_add,Int.mul_add,t1,t2,t3];omega
  rw [ex]
  generalize x0 * y0=a at *
  generalize x0 * y1=b at *
  generalize x1 * y0=c at *
  generalize x1 * y1=d at *
  unfold W4
  generalize loZ t00=l0 at *
  generalize loZ t10=l1 at *
  generalize loZ t11=l2 at *
  generalize loZ t01=l3 at *
  generalize hiZ t00=h0 at *
  generalize hiZ t10=h1 at *
  generalize hiZ t11=h2 at *
  generalize hiZ t01=h3 at *
  omega
/-- The order of numbers of four words. -/
theorem W4_le {a0 a1 a2 a3 b0 b1 b2 b3:Int} (p0:Word a0) (p1:Word a1) (p2:Word a2) (_:Word a3) (q0:Word b0) (q1:Word b1) (q2:Word b2) (_:Word b3) :
    (a3 ≠ b3→decide (W4 a0 a1 a2 a3≤W4 b0 b1 b2 b3)=decide (a3<b3))∧(a3=b3→a2 ≠ b2→decide (W4 a0 a1 a2 a3≤W4 b0 b1 b2 b3)=decide (a2<b2)) ∧
    (a3=b3→a2=b2→a1 ≠ b1→decide (W4 a0 a1 a2 a3≤W4 b0 b1 b2 b3)=decide (a1<b1))∧(a3=b3→a2=b2→a1=b1→a0 ≠ b0→decide (W4 a0 a1 a2 a3≤W4 b0 b1 b2 b3)=decide (a0<b0)):=by
  unfold Word at *
  refine ⟨fun h => ?_, fun h h' => ?_, fun h h' h'' => ?_, fun h h' h'' h''' => ?_⟩ <;> rw [decide_eq_decide] <;> unfold W4 <;> omega
theorem W4_eq {a0 a1 a2 a3:Int}:decide (W4 a0 a1 a2 a3≤W4 a0 a1 a2 a3)=true:=decide_eq_true (Int.le_refl _)
end Go.Proofs.YtafkoddgefcpnaaGreat

namespace Go.Proofs.YtafkoddgefcpnaaGreat

theorem validB_of {n d:Int} (h:validB n d=true):1≤d∧Nat.gcd n.natAbs d.natAbs=1:=by unfold validB at h;exact of_decide_eq_true h
/-- The rest has the same common divisors with the divisor. -/
theorem gcd_rest (n d:Int) (h:1≤d):gcdZ (rest n d) d=(Nat.gcd n.natAbs d.natAbs:Nat):=by
  have e:=flo_rest n d
  obtain ⟨r0,_⟩:=rest_pos n d (by omega)
  unfold gcdZ
  congr 1
  have hn:n.natAbs=(rest n d+d * flo n d).natAbs:=by rw [Int.mul_comm,Int.add_comm,e]
  have e1:(rest n d).toNat=(rest n d).natAbs:=by omega
  have e2:d.toNat=d.natAbs:=by omega
  rw [e1,e2,hn]
  show Int.gcd (rest n d) d=Int.gcd (rest n d+d * flo n d) d
  rw [Int.gcd_add_mul_left_left]

end Go.Proofs.YtafkoddgefcpnaaGreat
