/- Texts of these claims, one after the other. -/
import Derived.Test.YtafkoddgefcpnaaGreatRows
import Derived.Test.YtafkoddgefcpnaaGreatZRQuoq125
namespace Go.Proofs.YtafkoddgefcpnaaGreat
open Go.RowKit

/-- The eight ways of reduced. -/
theorem red_ways (s:Bool) (p q:Int) (hp:In2 p) (hq:In2 q) :
    ((hiZ p ≠ 0∨(hiZ p=0∧hiZ q ≠ 0)∨(hiZ p=0∧hiZ q=0∧9223372036854775808≤loZ q)∨(hiZ p=0∧hiZ q=0∧loZ q<9223372036854775808∧9223372036854775808<loZ p)∨(hiZ p=0∧hiZ q=0∧loZ q<9223372036854775808∧loZ p=9223372036854775808∧s=false))∧(fits (sz s p) && fits (sz false q))=false) ∨
    ((hiZ p=0∧hiZ q=0∧loZ q<9223372036854775808∧loZ p≤9223372036854775807∧s=false∧fit (sz s p)=loZ p)∨(hiZ p=0∧hiZ q=0∧loZ q<9223372036854775808∧loZ p=9223372036854775808∧s=true∧fit (sz s p)=-9223372036854775808)∨(hiZ p=0∧hiZ q=0∧loZ q<9223372036854775808∧loZ p≤9223372036854775807∧s=true∧fit (sz s p)=-loZ p))∧(fits (sz s p) && fits (sz false q))=true∧fit (sz false q)=loZ q:=by
  obtain ⟨p0,p1⟩:=hp;obtain ⟨q0,q1⟩:=hq
  have hP:p=hiZ p * 18446744073709551616+loZ p:=by unfold hiZ loZ;omega
  have hQ:q=hiZ q * 18446744073709551616+loZ q:=by unfold hiZ loZ;omega
  obtain ⟨a1,a2⟩:=loZ_word p
  obtain ⟨b1,b2⟩:=loZ_word q
  obtain ⟨a3,a4⟩:=hiZ_word (v:=p) ⟨p0,p1⟩
  obtain ⟨b3,b4⟩:=hiZ_word (v:=q) ⟨q0,q1⟩
  generalize hiZ p=ph at *
  generalize loZ p=pl at *
  generalize hiZ q=qh at *
  generalize loZ q=ql at *
  by_cases hf:In (sz s p)∧In (sz false q)
  · obtain ⟨hf1,hf2⟩:=hf
    refine Or.inr ?_
    rw [fits_yes hf1,fits_yes hf2,fit_yes hf1,fit_yes hf2,sz_false]
    rw [sz_false] at hf2
    unfold In at hf1 hf2
    refine ⟨?_,rfl,by omega⟩
    cases s
    · rw [sz_false] at *;exact Or.inl ⟨by omega,by omega,by omega,by omega,rfl,by omega⟩
    · rw [sz_true] at *
      by_cases hm:pl=9223372036854775808
      · exact Or.inr (Or.inl ⟨by omega,by omega,by omega,by omega,rfl,by omega⟩)
      · exact Or.inr (Or.inr ⟨by omega,by omega,by omega,by omega,rfl,by omega⟩)
  · refine Or.inl ⟨?_,?_⟩
    · cases s
      · rw [sz_false,sz_false] at hf;unfold In at hf;simp only [and_true];omega
      · rw [sz_true,sz_false] at hf;unfold In at hf;omega
    · by_cases h1:In (sz s p)
      · have h2:¬ In (sz false q):=fun h=>hf ⟨h1,h⟩
        rw [fits_no h2,Bool.and_false]
      · rw [fits_no h1,Bool.false_and]

theorem quo_outF (s:Bool) (x y:Int) (hx:0≤x) (hy:0<y) :
    gotR (quoN (sz s x) y) (quoD (sz s x) y) (quoB (sz s x) y) =
      if (fits (sz s (x / gcdZ x y)) && fits (sz false (y / gcdZ x y)))=true then gotR (fit (sz s (x / gcdZ x y))) (fit (sz false (y / gcdZ x y))) true else gotR 0 0 false:=by
  have h:=quo_out s false x y hx hy
  rw [sz_false,show (s != false)=s by cases s <;> rfl] at h
  exact h

set_option maxHeartbeats 8000000 in
set_option maxRecDepth 100000 in
theorem red_up (s:Bool) (x y:Int) (hx:In2 x) (hy:In2 y) (h0:y ≠ 0) (w:World) :
    Calls Tryz.prog 85 #[.bool s,.agg #[.int .u64 (hiZ x),.int .u64 (loZ x)],.agg #[.int .u64 (hiZ y),.int .u64 (loZ y)]] w fun e w' =>
      e=gotR (quoN (sz s x) y) (quoD (sz s x) y) (quoB (sz s x) y)∧Up w w':=by
  obtain ⟨ig,g0,ip,iq⟩:=gcdZ_fact hx hy h0
  have HO:=Lib.hid (quo_outF s x y hx.1 (by obtain ⟨y0,_⟩:=hy;omega))
  have HG:=Lib.hid (fun W=>rgcd_v x y hx hy W)
  have HX:=Lib.hid (fun W=>rdiv_v x (gcdZ x y) hx ig g0 W)
  have HY:=Lib.hid (fun W=>rdiv_v y (gcdZ x y) hy ig g0 W)
  have HW:=Lib.hid (red_ways s (x / gcdZ x y) (y / gcdZ x y) ip iq)
  have p0:=(loZ_word (x / gcdZ x y)).1
  have q0:=(loZ_word (y / gcdZ x y)).1
  generalize gotR (quoN (sz s x) y) (quoD (sz s x) y) (quoB (sz s x) y)=R at *
  generalize fit (sz s (x / gcdZ x y))=fp at *
  generalize fit (sz false (y / gcdZ x y))=fq at *
  generalize (fits (sz s (x / gcdZ x y)) && fits (sz false (y / gcdZ x y)))=bb at *
  generalize x % gcdZ x y=rx at *
  generalize y % gcdZ x y=ry at *
  generalize x / gcdZ x y=p at *
  generalize y / gcdZ x y=q at *
  generalize gcdZ x y=g at *
  generalize hiZ rx=rxh at *
  generalize loZ rx=rxl at *
  generalize hiZ ry=ryh at *
  generalize loZ ry=ryl at *
  generalize hiZ p=ph at *
  generalize loZ p=pl at *
  generalize hiZ q=qh at *
  generalize loZ q=ql at *
  clear hx hy h0 ig g0 ip iq
  go_enter Tryz.func85,Tryz.ntmps85
  go_wp2_with fail
  refine (HG.out _).mono ?_
  rintro e w1 ⟨rfl,hu1⟩
  try unfold got2
  have c1_0:=hu1.keep (w.heap.size) (0) (.int .u64 (hiZ x)) (by simp [go_sem, *])
  have c1_1:=hu1.keep (w.heap.size) (1) (.int .u64 (loZ x)) (by simp [go_sem, *])
  have c1_2:=hu1.keep (w.heap.size+1) (0) (.int .u64 (hiZ y)) (by simp [go_sem, *])
  have c1_3:=hu1.keep (w.heap.size+1) (1) (.int .u64 (loZ y)) (by simp [go_sem, *])
  have c1_4:=hu1.keep (w.heap.size+1+1) (0) (.int .i64 0) (by simp [go_sem, *])
  have c1_5:=hu1.keep (w.heap.size+1+1) (1) (.int .i64 0) (by simp [go_sem, *])
  have l1_0:w.heap.size<w1.heap.size:=World.block_lt_of_cell? _ _ c1_0
  have m1_0:w.heap.size<w1.heap.size+1:=by omega
  have n1_0:w.heap.size<w1.heap.size+1+1:=by omega
  have x1_0:¬ w1.heap.size=w.heap.size:=by omega
  have y1_0:¬ w1.heap.size+1=w.heap.size:=by omega
  have l1_1:w.heap.size+1<w1.heap.size:=World.block_lt_of_cell? _ _ c1_2
  have m1_1:w.heap.size+1<w1.heap.size+1:=by omega
  have n1_1:w.heap.size+1<w1.heap.size+1+1:=by omega
  have x1_1:¬ w1.heap.size=w.heap.size+1:=by omega
  have y1_1:¬ w1.heap.size+1=w.heap.size+1:=by omega
  have l1_2:w.heap.size+1+1<w1.heap.size:=World.block_lt_of_cell? _ _ c1_4
  have m1_2:w.heap.size+1+1<w1.heap.size+1:=by omega
  have n1_2:w.heap.size+1+1<w1.heap.size+1+1:=by omega
  have x1_2:¬ w1.heap.size=w.heap.size+1+1:=by omega
  have y1_2:¬ w1.heap.size+1=w.heap.size+1+1:=by omega
  have HU1:Hid (Up w w1):=Lib.hid (by ((repeat (first | (with_reducible exact Up.refl _) | (with_reducible refine Up.trans ?_ hu1) | (with_reducible refine Up.alloc ?_ _ _) | (with_reducible refine Up.setCell ?_ ?_ _) | (with_reducible refine Up.drewN ?_ _) | (with_reducible refine Up.drew ?_)));all_goals (first | (simp;done) | (simp;omega) | omega)))
  clear hu1
  go_wp2_with fail
  refine (HX.out _).mono ?_
  rintro e w2 ⟨rfl,hu2⟩
  try unfold got2
  have c2_0:=hu2.keep (w.heap.size+1) (0) (.int .u64 (hiZ y)) (by simp [go_sem, *])
  have c2_1:=hu2.keep (w.heap.size+1) (1) (.int .u64 (loZ y)) (by simp [go_sem, *])
  have c2_2:=hu2.keep (w.heap.size+1+1) (0) (.int .i64 0) (by simp [go_sem, *])
  have c2_3:=hu2.keep (w.heap.size+1+1) (1) (.int .i64 0) (by simp [go_sem, *])
  have c2_4:=hu2.keep (w1.heap.size) (0) (.int .u64 (hiZ g)) (by simp [go_sem, *])
  have c2_5:=hu2.keep (w1.heap.size) (1) (.int .u64 (loZ g)) (by simp [go_sem, *])
  have l2_0:w.heap.size+1<w2.heap.size:=World.block_lt_of_cell? _ _ c2_0
  have m2_0:w.heap.size+1<w2.heap.size+1:=by omega
  have n2_0:w.heap.size+1<w2.heap.size+1+1:=by omega
  have x2_0:¬ w2.heap.size=w.heap.size+1:=by omega
  have y2_0:¬ w2.heap.size+1=w.heap.size+1:=by omega
  have l2_1:w.heap.size+1+1<w2.heap.size:=World.block_lt_of_cell? _ _ c2_2
  have m2_1:w.heap.size+1+1<w2.heap.size+1:=by omega
  have n2_1:w.heap.size+1+1<w2.heap.size+1+1:=by omega
  have x2_1:¬ w2.heap.size=w.heap.size+1+1:=by omega
  have y2_1:¬ w2.heap.size+1=w.heap.size+1+1:=by omega
  have l2_2:w1.heap.size<w2.heap.size:=World.block_lt_of_cell? _ _ c2_4
  have m2_2:w1.heap.size<w2.heap.size+1:=by omega
  have n2_2:w1.heap.size<w2.heap.size+1+1:=by omega
  have x2_2:¬ w2.heap.size=w1.heap.size:=by omega
  have y2_2:¬ w2.heap.size+1=w1.heap.size:=by omega
  have HU2:Hid (Up w w2):=Lib.hid (by ((repeat (first | (with_reducible exact Up.refl _) | (with_reducible exact HU1.out) | (with_reducible refine Up.trans ?_ hu2) | (with_reducible refine Up.alloc ?_ _ _) | (with_reducible refine Up.setCell ?_ ?_ _) | (with_reducible refine Up.drewN ?_ _) | (with_reducible refine Up.drew ?_)));all_goals (first | (simp;done) | (simp;omega) | omega)))
  clear hu2 c1_0 c1_1 c1_2 c1_3 c1_4 c1_5
  go_wp2_with fail
  refine (HY.out _).mono ?_
  rintro e w3 ⟨rfl,hu3⟩
  try unfold got2
  have c3_0:=hu3.keep (w.heap.size+1+1) (0) (.int .i64 0) (by simp [go_sem, *])
  have c3_1:=hu3.keep (w.heap.size+1+1) (1) (.int .i64 0) (by simp [go_sem, *])
  have c3_2:=hu3.keep (w2.heap.size) (0) (.int .u64 ph) (by simp [go_sem, *])
  have c3_3:=hu3.keep (w2.heap.size) (1) (.int .u64 pl) (by simp [go_sem, *])
  have l3_0:w.heap.size+1+1<w3.heap.size:=World.block_lt_of_cell? _ _ c3_0
  have m3_0:w.heap.size+1+1<w3.heap.size+1:=by omega
  have n3_0:w.heap.size+1+1<w3.heap.size+1+1:=by omega
  have x3_0:¬ w3.heap.size=w.heap.size+1+1:=by omega
  have y3_0:¬ w3.heap.size+1=w.heap.size+1+1:=by omega
  have l3_1:w2.heap.size<w3.heap.size:=World.block_lt_of_cell? _ _ c3_2
  have m3_1:w2.heap.size<w3.heap.size+1:=by omega
  have n3_1:w2.heap.size<w3.heap.size+1+1:=by omega
  have x3_1:¬ w3.heap.size=w2.heap.size:=by omega
  have y3_1:¬ w3.heap.size+1=w2.heap.size:=by omega
  have HU3:Hid (Up w w3):=Lib.hid (by ((repeat (first | (with_reducible exact Up.refl _) | (with_reducible exact HU2.out) | (with_reducible refine Up.trans ?_ hu3) | (with_reducible refine Up.alloc ?_ _ _) | (with_reducible refine Up.setCell ?_ ?_ _) | (with_reducible refine Up.drewN ?_ _) | (with_reducible refine Up.drew ?_)));all_goals (first | (simp;done) | (simp;omega) | omega)))
  clear hu3 c2_0 c2_1 c2_2 c2_3 c2_4 c2_5
  have z0:=own2 HU3.out 0
  have z1:=own2 HU3.out 1
  rcases HW.out with ⟨hw,hb⟩ | ⟨hw,hb,hfq⟩
  · have HR:=Lib.hid (show R=gotR 0 0 false by rw [HO.out,hb];rfl)
    clear HO hb HW
    rcases hw with h1 | ⟨h1,h2⟩ | ⟨h1,h2,h3⟩ | ⟨h1,h2,h3,h4⟩ | ⟨h1,h2,h3,h4,h5⟩
    · have t1:(ph != 0)=true:=bne_iff_ne.2 h1
      clear h1
      go_wp2_with fail
      refine bodyPost_ret (v:=.tuple #[.agg #[.int .i64 0,.int .i64 0],.bool false]) (by simp [results,Tryz.results85,go_sem,c3_0,c3_1,l3_0,m3_0]) rfl ⟨?_,?_⟩
      · rw [HR.out];rfl
      · repeat (first | exact Up.refl _ | (refine Up.trans ?_ (HU3.out);skip) | refine Up.alloc ?_ _ _ | refine Up.setCell ?_ (by first | (simp;done) | (simp;omega) | omega) _ | refine Up.drewN ?_ _ | refine Up.drew ?_)
    · have t2:(qh != 0)=true:=bne_iff_ne.2 h2
      subst h1
      clear h2
      go_wp2_with fail
      refine bodyPost_ret (v:=.tuple #[.agg #[.int .i64 0,.int .i64 0],.bool false]) (by simp [results,Tryz.results85,go_sem,c3_0,c3_1,l3_0,m3_0]) rfl ⟨?_,?_⟩
      · rw [HR.out];rfl
      · repeat (first | exact Up.refl _ | (refine Up.trans ?_ (HU3.out);skip) | refine Up.alloc ?_ _ _ | refine Up.setCell ?_ (by first | (simp;done) | (simp;omega) | omega) _ | refine Up.drewN ?_ _ | refine Up.drew ?_)
    · have t3:decide (9223372036854775808≤ql)=true:=decide_eq_true h3
      subst h1 h2
      clear h3
      go_wp2_with fail
      refine bodyPost_ret (v:=.tuple #[.agg #[.int .i64 0,.int .i64 0],.bool false]) (by simp [results,Tryz.results85,go_sem,c3_0,c3_1,l3_0,m3_0]) rfl ⟨?_,?_⟩
      · rw [HR.out];rfl
      · repeat (first | exact Up.refl _ | (refine Up.trans ?_ (HU3.out);skip) | refine Up.alloc ?_ _ _ | refine Up.setCell ?_ (by first | (simp;done) | (simp;omega) | omega) _ | refine Up.drewN ?_ _ | refine Up.drew ?_)
    · have t3:decide (9223372036854775808≤ql)=false:=decide_eq_false (by omega)
      have t4:decide (9223372036854775808<pl)=true:=decide_eq_true h4
      subst h1 h2
      clear h3 h4
      go_wp2_with fail
      refine bodyPost_ret (v:=.tuple #[.agg #[.int .i64 0,.int .i64 0],.bool false]) (by simp [results,Tryz.results85,go_sem,c3_0,c3_1,l3_0,m3_0]) rfl ⟨?_,?_⟩
      · rw [HR.out];rfl
      · repeat (first | exact Up.refl _ | (refine Up.trans ?_ (HU3.out);skip) | refine Up.alloc ?_ _ _ | refine Up.setCell ?_ (by first | (simp;done) | (simp;omega) | omega) _ | refine Up.drewN ?_ _ | refine Up.drew ?_)
    · have t3:decide (9223372036854775808≤ql)=false:=decide_eq_false (by omega)
      subst h1 h2 h5 h4
      clear h3
      go_wp2_with fail
      refine bodyPost_ret (v:=.tuple #[.agg #[.int .i64 0,.int .i64 0],.bool false]) (by simp [results,Tryz.results85,go_sem,c3_0,c3_1,l3_0,m3_0]) rfl ⟨?_,?_⟩
      · rw [HR.out];rfl
      · repeat (first | exact Up.refl _ | (refine Up.trans ?_ (HU3.out);skip) | refine Up.alloc ?_ _ _ | refine Up.setCell ?_ (by first | (simp;done) | (simp;omega) | omega) _ | refine Up.drewN ?_ _ | refine Up.drew ?_)
  · have HR:=Lib.hid (show R=gotR fp fq true by rw [HO.out,hb];rfl)
    have HQ:=Lib.hid hfq
    clear HO hb HW hfq
    rcases hw with ⟨h1,h2,h3,h4,h5,h6⟩ | ⟨h1,h2,h3,h4,h5,h6⟩ | ⟨h1,h2,h3,h4,h5,h6⟩
    · have t3:decide (9223372036854775808≤ql)=false:=decide_eq_false (by omega)
      have t4:decide (9223372036854775808<pl)=false:=decide_eq_false (by omega)
      have t5:(pl == 9223372036854775808)=false:=beq_eq_false_iff_ne.2 (by omega)
      have H6:=Lib.hid h6
      have q1:ql≤9223372036854775807:=by omega
      subst h1 h2 h5
      clear h3 h6
      go_wp2_with fail
      refine bodyPost_ret (v:=.tuple #[.agg #[.int .i64 pl,.int .i64 ql],.bool true]) (by simp [results,Tryz.results85,go_sem,c3_0,c3_1,l3_0,m3_0]) rfl ⟨?_,?_⟩
      · rw [HR.out,HQ.out,H6.out];rfl
      · repeat (first | exact Up.refl _ | (refine Up.trans ?_ (HU3.out);skip) | refine Up.alloc ?_ _ _ | refine Up.setCell ?_ (by first | (simp;done) | (simp;omega) | omega) _ | refine Up.drewN ?_ _ | refine Up.drew ?_)
    · have t3:decide (9223372036854775808≤ql)=false:=decide_eq_false (by omega)
      have H6:=Lib.hid h6
      have q1:ql≤9223372036854775807:=by omega
      subst h1 h2 h5 h4
      clear h3 h6
      go_wp2_with fail
      refine bodyPost_ret (v:=.tuple #[.agg #[.int .i64 (-9223372036854775808),.int .i64 ql],.bool true]) (by simp [results,Tryz.results85,go_sem,c3_0,c3_1,l3_0,m3_0]) rfl ⟨?_,?_⟩
      · rw [HR.out,HQ.out,H6.out];rfl
      · repeat (first | exact Up.refl _ | (refine Up.trans ?_ (HU3.out);skip) | refine Up.alloc ?_ _ _ | refine Up.setCell ?_ (by first | (simp;done) | (simp;omega) | omega) _ | refine Up.drewN ?_ _ | refine Up.drew ?_)
    · have t3:decide (9223372036854775808≤ql)=false:=decide_eq_false (by omega)
      have t4:decide (9223372036854775808<pl)=false:=decide_eq_false (by omega)
      have t5:(pl == 9223372036854775808)=false:=beq_eq_false_iff_ne.2 (by omega)
      have H6:=Lib.hid h6
      have q1:ql≤9223372036854775807:=by omega
      subst h1 h2 h5
      clear h3 h6
      go_wp2_with fail
      refine bodyPost_ret (v:=.tuple #[.agg #[.int .i64 (-pl),.int .i64 ql],.bool true]) (by simp [results,Tryz.results85,go_sem,c3_0,c3_1,l3_0,m3_0]) rfl ⟨?_,?_⟩
      · rw [HR.out,HQ.out,H6.out];rfl
      · repeat (first | exact Up.refl _ | (refine Up.trans ?_ (HU3.out);skip) | refine Up.alloc ?_ _ _ | refine Up.setCell ?_ (by first | (simp;done) | (simp;omega) | omega) _ | refine Up.drewN ?_ _ | refine Up.drew ?_)

end Go.Proofs.YtafkoddgefcpnaaGreat

namespace Go.Proofs.YtafkoddgefcpnaaGreat
open Go.RowKit

theorem ofr_up (n:Int) (w:World):Calls Tryz.prog 74 #[.int .i64 n] w fun e w'=>e=.returned (.agg #[.int .i64 n,.int .i64 1])∧Up w w':=by
  go_enter Tryz.func74,Tryz.ntmps74
  go_wp2
  refine bodyPost_ret (v:=.agg #[.int .i64 n,.int .i64 1]) (by simp [results,Tryz.results74,go_sem]) rfl ⟨?_,?_⟩
  · rfl
  · repeat (first | exact Up.refl _ | refine Up.alloc ?_ _ _ | refine Up.setCell ?_ (by first | (simp;done) | (simp;omega) | omega) _ | refine Up.drewN ?_ _ | refine Up.drew ?_)

end Go.Proofs.YtafkoddgefcpnaaGreat

namespace Go.Proofs.YtafkoddgefcpnaaGreat
open Go.RowKit

theorem rofr_up (n:Int) (w:World):Calls Tryz.prog 75 #[.int .i64 n] w fun e w'=>e=.returned (.agg #[.int .i64 n,.int .i64 1])∧Up w w':=by
  go_enter Tryz.func75,Tryz.ntmps75
  go_wp2
  refine bodyPost_ret (v:=.agg #[.int .i64 n,.int .i64 1]) (by simp [results,Tryz.results75,go_sem]) rfl ⟨?_,?_⟩
  · rfl
  · repeat (first | exact Up.refl _ | refine Up.alloc ?_ _ _ | refine Up.setCell ?_ (by first | (simp;done) | (simp;omega) | omega) _ | refine Up.drewN ?_ _ | refine Up.drew ?_)

end Go.Proofs.YtafkoddgefcpnaaGreat

namespace Go.Proofs.YtafkoddgefcpnaaGreat
open Go.RowKit

/-- What the walk of Spread holds: the words of s in block a. -/
structure Spc (w wr:World) (a:Nat) (s:Int):Prop where
  up:Up w wr
  s0:wr.cell? ⟨a,0,none⟩=some (.int .u64 (dg3 s 0))
  s1:wr.cell? ⟨a,1,none⟩=some (.int .u64 (dg3 s 1))
  s2:wr.cell? ⟨a,2,none⟩=some (.int .u64 (dg3 s 2))
theorem Spc.keep {w w1 w2:World} {a:Nat} {s:Int} (h:Spc w w1 a s) (hu:Up w1 w2):Spc w w2 a s:=⟨h.up.trans hu,hu.keep _ _ _ h.s0,hu.keep _ _ _ h.s1,hu.keep _ _ _ h.s2⟩
end Go.Proofs.YtafkoddgefcpnaaGreat

namespace Go.Proofs.YtafkoddgefcpnaaGreat

theorem sgn_mul (a b:Int):cmpZ a 0 * cmpZ b 0=cmpZ (a * b) 0:=by
  rcases (by omega:a<0∨a=0∨0<a) with ha | ha | ha <;> rcases (by omega:b<0∨b=0∨0<b) with hb | hb | hb
  · rw [cmpZ_lt ha,cmpZ_lt hb,cmpZ_gt (Int.mul_pos_of_neg_of_neg ha hb)];rfl
  · subst hb;rw [Int.mul_zero,cmpZ_eq (x:=0) rfl,Int.mul_zero]
  · rw [cmpZ_lt ha,cmpZ_gt hb,cmpZ_lt (Int.mul_neg_of_neg_of_pos ha hb)];rfl
  · subst ha;rw [Int.zero_mul,cmpZ_eq (x:=0) rfl,Int.zero_mul]
  · subst ha;rw [Int.zero_mul,cmpZ_eq (x:=0) rfl,Int.zero_mul]
  · subst ha;rw [Int.zero_mul,cmpZ_eq (x:=0) rfl,Int.zero_mul]
  · rw [cmpZ_gt ha,cmpZ_lt hb,cmpZ_lt (Int.mul_neg_of_pos_of_neg ha hb)];rfl
  · subst hb;rw [Int.mul_zero,cmpZ_eq (x:=0) rfl,Int.mul_zero]
  · rw [cmpZ_gt ha,cmpZ_gt hb,cmpZ_gt (Int.mul_pos ha hb)];rfl
theorem cross_is (p q:Int):(if cmpZ p 0=cmpZ q 0 then cmpZ p 0 * cmpZ (p.natAbs:Int) (q.natAbs:Int) else cmpZ (cmpZ p 0) (cmpZ q 0))=cmpZ p q:=by
  rcases (by omega:p<0∨p=0∨0<p) with hp | hp | hp <;> rcases (by omega:q<0∨q=0∨0<q) with hq | hq | hq
  · rw [cmpZ_lt hp,cmpZ_lt hq,if_pos rfl]
    unfold cmpZ;(repeat' split) <;> omega
  · rw [cmpZ_lt hp,cmpZ_eq hq,if_neg (by decide),cmpZ_lt (x:=p) (y:=q) (by omega)];rfl
  · rw [cmpZ_lt hp,cmpZ_gt hq,if_neg (by decide),cmpZ_lt (x:=p) (y:=q) (by omega)];rfl
  · rw [cmpZ_eq hp,cmpZ_lt hq,if_neg (by decide),cmpZ_gt (x:=p) (y:=q) (by omega)];rfl
  · rw [cmpZ_eq hp,cmpZ_eq hq,if_pos rfl,cmpZ_eq (x:=p) (y:=q) (by omega)];omega
  · rw [cmpZ_eq hp,cmpZ_gt hq,if_neg (by decide),cmpZ_lt (x:=p) (y:=q) (by omega)];rfl
  · rw [cmpZ_gt hp,cmpZ_lt hq,if_neg (by decide),cmpZ_gt (x:=p) (y:=q) (by omega)];rfl
  · rw [cmpZ_gt hp,cmpZ_eq hq,if_neg (by decide),cmpZ_gt (x:=p) (y:=q) (by omega)];rfl
  · rw [cmpZ_gt hp,cmpZ_gt hq,if_pos rfl]
    unfold cmpZ;(repeat' split) <;> omega
/-- The comparison of two products is what it says. -/
theorem crossZ_eq (a b c d:Int):crossZ a b c d=cmpZ (a * b) (c * d):=by
  unfold crossZ
  rw [sgn_mul,sgn_mul,← cross_is (a * b) (c * d),Int.natAbs_mul,Int.natAbs_mul,Int.natCast_mul,Int.natCast_mul]
end Go.Proofs.YtafkoddgefcpnaaGreat
