/- What Within of package bounds returns. -/
import Derived.Test.YtafkoddgefcpnaaGreatRows
import Derived.Test.YtafkoddgefcpnaaGreatZBProductq147
import Derived.Test.YtafkoddgefcpnaaGreatZBValidq148
import Derived.Test.YtafkoddgefcpnaaGreatZBWidthq143
namespace Go.Proofs.YtafkoddgefcpnaaGreat
open Go.RowKit

theorem w2_in {x y:Int} (hx:Word x) (hy:Word y):In2 (x * y):=by
  have h:=step_in hx hy
  unfold In2;omega
theorem word_nat {n:Int} (h:0≤n) (hn:In n):Word n:=by obtain ⟨_,b⟩:=hn;exact ⟨by omega,by omega⟩
theorem u_keep {n:Int} (h:0≤n) (hn:In n):IntKind.u64.wrap n=n:=by rw [IntKind.wrap_u64];obtain ⟨_,b⟩:=hn;omega
/-- Whether an interval is narrow against a number. -/
def wiB (n1 d1 n2 d2 n3 d3 k n d:Int):Bool:=bvB n1 d1 n2 d2 n3 d3 && (decide (1≤k) && (validB n d && (decide (0≤n) && decide (wdZ n1 d1 n3 d3 * (k * d)≤d1 * d3 * n))))
theorem wiB_main {n1 d1 n2 d2 n3 d3 k n d:Int} (h1:bvB n1 d1 n2 d2 n3 d3=true) (h2:1≤k) (h3:validB n d=true) (h4:0≤n):wiB n1 d1 n2 d2 n3 d3 k n d=decide (wdZ n1 d1 n3 d3 * (k * d)≤d1 * d3 * n):=by
  unfold wiB;rw [h1,h3,decide_eq_true h2,decide_eq_true h4];rfl

set_option maxHeartbeats 16000000 in
set_option maxRecDepth 100000 in
theorem within_up (n1 d1 n2 d2 n3 d3 k n d:Int) (in1:In n1) (id1:In d1) (in2:In n2) (id2:In d2) (in3:In n3) (id3:In d3) (ik:In k) (in_n:In n) (id_d:In d) (w:World) :
    Calls Tryz.prog 24 #[.agg #[.int .i64 n1,.int .i64 d1,.int .i64 n2,.int .i64 d2,.int .i64 n3,.int .i64 d3],.int .i64 k,.agg #[.int .i64 n,.int .i64 d]] w fun e w'=>e=.returned (.bool (wiB n1 d1 n2 d2 n3 d3 k n d))∧Up w w':=by
  have HV:=Lib.hid (fun W=>bvalid_up n1 d1 n2 d2 n3 d3 in1 id1 in2 id2 in3 id3 W)
  have HU:=Lib.hid (fun W=>valid_up n d in_n id_d W)
  have HR:=Lib.hid (show wiB n1 d1 n2 d2 n3 d3 k n d=(bvB n1 d1 n2 d2 n3 d3 && (decide (1≤k) && (validB n d && (decide (0≤n) && decide (wdZ n1 d1 n3 d3 * (k * d)≤d1 * d3 * n))))) from rfl)
  by_cases hv:bvB n1 d1 n2 d2 n3 d3=true
  case neg =>
    have hv':=Bool.eq_false_iff.2 hv
    have HR':Hid (wiB n1 d1 n2 d2 n3 d3 k n d=false):=Lib.hid (by rw [HR.out,hv'];simp)
    generalize wiB n1 d1 n2 d2 n3 d3 k n d=r at *
    rw [hv'] at HV
    clear hv hv' HR in1 id1 in2 id2 in3 id3 ik in_n id_d
    go_enter Tryz.func24,Tryz.ntmps24
    go_wp2_with fail
    refine (HV.out _).mono ?_
    rintro e w1 ⟨rfl,hu1⟩
    try unfold got2
    have c1_0:=hu1.keep (w.heap.size) (0) (.int .i64 n1) (by simp [go_sem, *])
    have c1_1:=hu1.keep (w.heap.size) (1) (.int .i64 d1) (by simp [go_sem, *])
    have c1_2:=hu1.keep (w.heap.size) (2) (.int .i64 n2) (by simp [go_sem, *])
    have c1_3:=hu1.keep (w.heap.size) (3) (.int .i64 d2) (by simp [go_sem, *])
    have c1_4:=hu1.keep (w.heap.size) (4) (.int .i64 n3) (by simp [go_sem, *])
    have c1_5:=hu1.keep (w.heap.size) (5) (.int .i64 d3) (by simp [go_sem, *])
    have c1_6:=hu1.keep (w.heap.size+1) (0) (.int .i64 n) (by simp [go_sem, *])
    have c1_7:=hu1.keep (w.heap.size+1) (1) (.int .i64 d) (by simp [go_sem, *])
    have l1_0:w.heap.size<w1.heap.size:=World.block_lt_of_cell? _ _ c1_0
    have m1_0:w.heap.size<w1.heap.size+1:=by omega
    have n1_0:w.heap.size<w1.heap.size+1+1:=by omega
    have x1_0:¬ w1.heap.size=w.heap.size:=by omega
    have y1_0:¬ w1.heap.size+1=w.heap.size:=by omega
    have l1_1:w.heap.size+1<w1.heap.size:=World.block_lt_of_cell? _ _ c1_6
    have m1_1:w.heap.size+1<w1.heap.size+1:=by omega
    have n1_1:w.heap.size+1<w1.heap.size+1+1:=by omega
    have x1_1:¬ w1.heap.size=w.heap.size+1:=by omega
    have y1_1:¬ w1.heap.size+1=w.heap.size+1:=by omega
    have HU1:Hid (Up w w1):=Lib.hid (by ((repeat (first | (with_reducible exact Up.refl _) | (with_reducible refine Up.trans ?_ hu1) | (with_reducible refine Up.alloc ?_ _ _) | (with_reducible refine Up.setCell ?_ ?_ _) | (with_reducible refine Up.drewN ?_ _) | (with_reducible refine Up.drew ?_)));all_goals (first | (simp;done) | (simp;omega) | omega)))
    clear hu1
    go_wp2_with fail
    go_ret
    exact ⟨by rw [HR'.out];rfl,HU1.out⟩
  by_cases hk:1≤k
  case neg =>
    have t:decide (k<1)=true:=decide_eq_true (by omega)
    have HR':Hid (wiB n1 d1 n2 d2 n3 d3 k n d=false):=Lib.hid (by rw [HR.out,decide_eq_false hk];simp)
    generalize wiB n1 d1 n2 d2 n3 d3 k n d=r at *
    rw [hv] at HV
    clear hv hk HR in1 id1 in2 id2 in3 id3 ik in_n id_d
    go_enter Tryz.func24,Tryz.ntmps24
    go_wp2_with fail
    refine (HV.out _).mono ?_
    rintro e w1 ⟨rfl,hu1⟩
    try unfold got2
    have c1_0:=hu1.keep (w.heap.size) (0) (.int .i64 n1) (by simp [go_sem, *])
    have c1_1:=hu1.keep (w.heap.size) (1) (.int .i64 d1) (by simp [go_sem, *])
    have c1_2:=hu1.keep (w.heap.size) (2) (.int .i64 n2) (by simp [go_sem, *])
    have c1_3:=hu1.keep (w.heap.size) (3) (.int .i64 d2) (by simp [go_sem, *])
    have c1_4:=hu1.keep (w.heap.size) (4) (.int .i64 n3) (by simp [go_sem, *])
    have c1_5:=hu1.keep (w.heap.size) (5) (.int .i64 d3) (by simp [go_sem, *])
    have c1_6:=hu1.keep (w.heap.size+1) (0) (.int .i64 n) (by simp [go_sem, *])
    have c1_7:=hu1.keep (w.heap.size+1) (1) (.int .i64 d) (by simp [go_sem, *])
    have l1_0:w.heap.size<w1.heap.size:=World.block_lt_of_cell? _ _ c1_0
    have m1_0:w.heap.size<w1.heap.size+1:=by omega
    have n1_0:w.heap.size<w1.heap.size+1+1:=by omega
    have x1_0:¬ w1.heap.size=w.heap.size:=by omega
    have y1_0:¬ w1.heap.size+1=w.heap.size:=by omega
    have l1_1:w.heap.size+1<w1.heap.size:=World.block_lt_of_cell? _ _ c1_6
    have m1_1:w.heap.size+1<w1.heap.size+1:=by omega
    have n1_1:w.heap.size+1<w1.heap.size+1+1:=by omega
    have x1_1:¬ w1.heap.size=w.heap.size+1:=by omega
    have y1_1:¬ w1.heap.size+1=w.heap.size+1:=by omega
    have HU1:Hid (Up w w1):=Lib.hid (by ((repeat (first | (with_reducible exact Up.refl _) | (with_reducible refine Up.trans ?_ hu1) | (with_reducible refine Up.alloc ?_ _ _) | (with_reducible refine Up.setCell ?_ ?_ _) | (with_reducible refine Up.drewN ?_ _) | (with_reducible refine Up.drew ?_)));all_goals (first | (simp;done) | (simp;omega) | omega)))
    clear hu1
    go_wp2_with fail
    go_ret
    exact ⟨by rw [HR'.out];rfl,HU1.out⟩
  by_cases hu:validB n d=true
  case neg =>
    have t:decide (k<1)=false:=decide_eq_false (by omega)
    have hu':=Bool.eq_false_iff.2 hu
    have HR':Hid (wiB n1 d1 n2 d2 n3 d3 k n d=false):=Lib.hid (by rw [HR.out,hu'];simp)
    generalize wiB n1 d1 n2 d2 n3 d3 k n d=r at *
    rw [hv] at HV
    rw [hu'] at HU
    clear hv hk hu hu' HR in1 id1 in2 id2 in3 id3 ik in_n id_d
    go_enter Tryz.func24,Tryz.ntmps24
    go_wp2_with fail
    refine (HV.out _).mono ?_
    rintro e w1 ⟨rfl,hu1⟩
    try unfold got2
    have c1_0:=hu1.keep (w.heap.size) (0) (.int .i64 n1) (by simp [go_sem, *])
    have c1_1:=hu1.keep (w.heap.size) (1) (.int .i64 d1) (by simp [go_sem, *])
    have c1_2:=hu1.keep (w.heap.size) (2) (.int .i64 n2) (by simp [go_sem, *])
    have c1_3:=hu1.keep (w.heap.size) (3) (.int .i64 d2) (by simp [go_sem, *])
    have c1_4:=hu1.keep (w.heap.size) (4) (.int .i64 n3) (by simp [go_sem, *])
    have c1_5:=hu1.keep (w.heap.size) (5) (.int .i64 d3) (by simp [go_sem, *])
    have c1_6:=hu1.keep (w.heap.size+1) (0) (.int .i64 n) (by simp [go_sem, *])
    have c1_7:=hu1.keep (w.heap.size+1) (1) (.int .i64 d) (by simp [go_sem, *])
    have l1_0:w.heap.size<w1.heap.size:=World.block_lt_of_cell? _ _ c1_0
    have m1_0:w.heap.size<w1.heap.size+1:=by omega
    have n1_0:w.heap.size<w1.heap.size+1+1:=by omega
    have x1_0:¬ w1.heap.size=w.heap.size:=by omega
    have y1_0:¬ w1.heap.size+1=w.heap.size:=by omega
    have l1_1:w.heap.size+1<w1.heap.size:=World.block_lt_of_cell? _ _ c1_6
    have m1_1:w.heap.size+1<w1.heap.size+1:=by omega
    have n1_1:w.heap.size+1<w1.heap.size+1+1:=by omega
    have x1_1:¬ w1.heap.size=w.heap.size+1:=by omega
    have y1_1:¬ w1.heap.size+1=w.heap.size+1:=by omega
    have HU1:Hid (Up w w1):=Lib.hid (by ((repeat (first | (with_reducible exact Up.refl _) | (with_reducible refine Up.trans ?_ hu1) | (with_reducible refine Up.alloc ?_ _ _) | (with_reducible refine Up.setCell ?_ ?_ _) | (with_reducible refine Up.drewN ?_ _) | (with_reducible refine Up.drew ?_)));all_goals (first | (simp;done) | (simp;omega) | omega)))
    clear hu1
    go_wp2_with fail
    refine (HU.out _).mono ?_
    rintro e w2 ⟨rfl,hu2⟩
    try unfold got2
    have c2_0:=hu2.keep (w.heap.size) (0) (.int .i64 n1) (by simp [go_sem, *])
    have c2_1:=hu2.keep (w.heap.size) (1) (.int .i64 d1) (by simp [go_sem, *])
    have c2_2:=hu2.keep (w.heap.size) (2) (.int .i64 n2) (by simp [go_sem, *])
    have c2_3:=hu2.keep (w.heap.size) (3) (.int .i64 d2) (by simp [go_sem, *])
    have c2_4:=hu2.keep (w.heap.size) (4) (.int .i64 n3) (by simp [go_sem, *])
    have c2_5:=hu2.keep (w.heap.size) (5) (.int .i64 d3) (by simp [go_sem, *])
    have c2_6:=hu2.keep (w.heap.size+1) (0) (.int .i64 n) (by simp [go_sem, *])
    have c2_7:=hu2.keep (w.heap.size+1) (1) (.int .i64 d) (by simp [go_sem, *])
    have l2_0:w.heap.size<w2.heap.size:=World.block_lt_of_cell? _ _ c2_0
    have m2_0:w.heap.size<w2.heap.size+1:=by omega
    have n2_0:w.heap.size<w2.heap.size+1+1:=by omega
    have x2_0:¬ w2.heap.size=w.heap.size:=by omega
    have y2_0:¬ w2.heap.size+1=w.heap.size:=by omega
    have l2_1:w.heap.size+1<w2.heap.size:=World.block_lt_of_cell? _ _ c2_6
    have m2_1:w.heap.size+1<w2.heap.size+1:=by omega
    have n2_1:w.heap.size+1<w2.heap.size+1+1:=by omega
    have x2_1:¬ w2.heap.size=w.heap.size+1:=by omega
    have y2_1:¬ w2.heap.size+1=w.heap.size+1:=by omega
    have HU2:Hid (Up w w2):=Lib.hid (by ((repeat (first | (with_reducible exact Up.refl _) | (with_reducible exact HU1.out) | (with_reducible refine Up.trans ?_ hu2) | (with_reducible refine Up.alloc ?_ _ _) | (with_reducible refine Up.setCell ?_ ?_ _) | (with_reducible refine Up.drewN ?_ _) | (with_reducible refine Up.drew ?_)));all_goals (first | (simp;done) | (simp;omega) | omega)))
    clear hu2 c1_0 c1_1 c1_2 c1_3 c1_4 c1_5 c1_6 c1_7
    go_wp2_with fail
    go_ret
    exact ⟨by rw [HR'.out];rfl,HU2.out⟩
  by_cases hn:0≤n
  case neg =>
    have t:decide (k<1)=false:=decide_eq_false (by omega)
    have tn:decide (n<0)=true:=decide_eq_true (by omega)
    have HR':Hid (wiB n1 d1 n2 d2 n3 d3 k n d=false):=Lib.hid (by rw [HR.out,decide_eq_false hn];simp)
    generalize wiB n1 d1 n2 d2 n3 d3 k n d=r at *
    rw [hv] at HV
    rw [hu] at HU
    clear hv hk hu hn HR in1 id1 in2 id2 in3 id3 ik in_n id_d
    go_enter Tryz.func24,Tryz.ntmps24
    go_wp2_with fail
    refine (HV.out _).mono ?_
    rintro e w1 ⟨rfl,hu1⟩
    try unfold got2
    have c1_0:=hu1.keep (w.heap.size) (0) (.int .i64 n1) (by simp [go_sem, *])
    have c1_1:=hu1.keep (w.heap.size) (1) (.int .i64 d1) (by simp [go_sem, *])
    have c1_2:=hu1.keep (w.heap.size) (2) (.int .i64 n2) (by simp [go_sem, *])
    have c1_3:=hu1.keep (w.heap.size) (3) (.int .i64 d2) (by simp [go_sem, *])
    have c1_4:=hu1.keep (w.heap.size) (4) (.int .i64 n3) (by simp [go_sem, *])
    have c1_5:=hu1.keep (w.heap.size) (5) (.int .i64 d3) (by simp [go_sem, *])
    have c1_6:=hu1.keep (w.heap.size+1) (0) (.int .i64 n) (by simp [go_sem, *])
    have c1_7:=hu1.keep (w.heap.size+1) (1) (.int .i64 d) (by simp [go_sem, *])
    have l1_0:w.heap.size<w1.heap.size:=World.block_lt_of_cell? _ _ c1_0
    have m1_0:w.heap.size<w1.heap.size+1:=by omega
    have n1_0:w.heap.size<w1.heap.size+1+1:=by omega
    have x1_0:¬ w1.heap.size=w.heap.size:=by omega
    have y1_0:¬ w1.heap.size+1=w.heap.size:=by omega
    have l1_1:w.heap.size+1<w1.heap.size:=World.block_lt_of_cell? _ _ c1_6
    have m1_1:w.heap.size+1<w1.heap.size+1:=by omega
    have n1_1:w.heap.size+1<w1.heap.size+1+1:=by omega
    have x1_1:¬ w1.heap.size=w.heap.size+1:=by omega
    have y1_1:¬ w1.heap.size+1=w.heap.size+1:=by omega
    have HU1:Hid (Up w w1):=Lib.hid (by ((repeat (first | (with_reducible exact Up.refl _) | (with_reducible refine Up.trans ?_ hu1) | (with_reducible refine Up.alloc ?_ _ _) | (with_reducible refine Up.setCell ?_ ?_ _) | (with_reducible refine Up.drewN ?_ _) | (with_reducible refine Up.drew ?_)));all_goals (first | (simp;done) | (simp;omega) | omega)))
    clear hu1
    go_wp2_with fail
    refine (HU.out _).mono ?_
    rintro e w2 ⟨rfl,hu2⟩
    try unfold got2
    have c2_0:=hu2.keep (w.heap.size) (0) (.int .i64 n1) (by simp [go_sem, *])
    have c2_1:=hu2.keep (w.heap.size) (1) (.int .i64 d1) (by simp [go_sem, *])
    have c2_2:=hu2.keep (w.heap.size) (2) (.int .i64 n2) (by simp [go_sem, *])
    have c2_3:=hu2.keep (w.heap.size) (3) (.int .i64 d2) (by simp [go_sem, *])
    have c2_4:=hu2.keep (w.heap.size) (4) (.int .i64 n3) (by simp [go_sem, *])
    have c2_5:=hu2.keep (w.heap.size) (5) (.int .i64 d3) (by simp [go_sem, *])
    have c2_6:=hu2.keep (w.heap.size+1) (0) (.int .i64 n) (by simp [go_sem, *])
    have c2_7:=hu2.keep (w.heap.size+1) (1) (.int .i64 d) (by simp [go_sem, *])
    have l2_0:w.heap.size<w2.heap.size:=World.block_lt_of_cell? _ _ c2_0
    have m2_0:w.heap.size<w2.heap.size+1:=by omega
    have n2_0:w.heap.size<w2.heap.size+1+1:=by omega
    have x2_0:¬ w2.heap.size=w.heap.size:=by omega
    have y2_0:¬ w2.heap.size+1=w.heap.size:=by omega
    have l2_1:w.heap.size+1<w2.heap.size:=World.block_lt_of_cell? _ _ c2_6
    have m2_1:w.heap.size+1<w2.heap.size+1:=by omega
    have n2_1:w.heap.size+1<w2.heap.size+1+1:=by omega
    have x2_1:¬ w2.heap.size=w.heap.size+1:=by omega
    have y2_1:¬ w2.heap.size+1=w.heap.size+1:=by omega
    have HU2:Hid (Up w w2):=Lib.hid (by ((repeat (first | (with_reducible exact Up.refl _) | (with_reducible exact HU1.out) | (with_reducible refine Up.trans ?_ hu2) | (with_reducible refine Up.alloc ?_ _ _) | (with_reducible refine Up.setCell ?_ ?_ _) | (with_reducible refine Up.drewN ?_ _) | (with_reducible refine Up.drew ?_)));all_goals (first | (simp;done) | (simp;omega) | omega)))
    clear hu2 c1_0 c1_1 c1_2 c1_3 c1_4 c1_5 c1_6 c1_7
    go_wp2_with fail
    go_ret
    exact ⟨by rw [HR'.out];rfl,HU2.out⟩
  obtain ⟨v1,v2,v3,o1,o2⟩:=bvB_of hv
  have hle:=cmpR_trans v1 v2 v3 o1 o2
  rw [le_of_cmpR v1 v3] at hle
  have p1:=(validB_of v1).1
  have p3:=(validB_of v3).1
  have pd:=(validB_of hu).1
  have iW:=(width_ways in1 id1 in3 id3 p1 p3 hle).1
  have wk:=word_nat (by omega) ik
  have wd:=word_nat (by omega) id_d
  have w1:=word_nat (by omega) id1
  have w3:=word_nat (by omega) id3
  have wn:=word_nat hn in_n
  have HWd:=Lib.hid (fun W=>width_up n1 d1 n2 d2 n3 d3 in1 id1 in3 id3 p1 p3 hle W)
  have HP1:=Lib.hid (fun W=>product_up k d wk wd W)
  have HP2:=Lib.hid (fun W=>product_up d1 d3 w1 w3 W)
  have HQ1:=Lib.hid (fun W=>product4_v (wdZ n1 d1 n3 d3) (k * d) iW (w2_in wk wd) W)
  have HQ2:=Lib.hid (fun W=>product4_v (d1 * d3) n (w2_in w1 w3) ⟨by obtain ⟨x,_⟩:=wn;omega,by obtain ⟨_,x⟩:=wn;omega⟩ W)
  rw [show hiZ n=0 by unfold hiZ;obtain ⟨x,y⟩:=wn;omega,show loZ n=n by unfold loZ;obtain ⟨x,y⟩:=wn;omega] at HQ2
  have HA:=Lib.hid (fun W=>atMost_v (wdZ n1 d1 n3 d3 * (k * d)) (d1 * d3 * n) (mul_in4 iW (w2_in wk wd)) (mul_in4 (w2_in w1 w3) ⟨by obtain ⟨x,_⟩:=wn;omega,by obtain ⟨_,x⟩:=wn;omega⟩) W)
  have HM:=Lib.hid (wiB_main hv hk hu hn)
  have t:decide (k<1)=false:=decide_eq_false (by omega)
  have tn:decide (n<0)=false:=decide_eq_false (by omega)
  have ek:=u_keep (show 0≤k by omega) ik
  have ed:=u_keep (show 0≤d by omega) id_d
  have e1:=u_keep (show 0≤d1 by omega) id1
  have e3:=u_keep (show 0≤d3 by omega) id3
  have en:=u_keep hn in_n
  rw [hv] at HV
  rw [hu] at HU
  generalize wiB n1 d1 n2 d2 n3 d3 k n d=r at *
  generalize wdZ n1 d1 n3 d3 * (k * d)=A at *
  generalize d1 * d3 * n=B at *
  generalize wdZ n1 d1 n3 d3=V at *
  generalize k * d=kd at *
  generalize d1 * d3=dd at *
  generalize decide (A≤B)=rr at *
  clear hv hk hu hn v1 v2 v3 o1 o2 hle p1 p3 pd iW wk wd w1 w3 wn HR in1 id1 in2 id2 in3 id3 ik in_n id_d
  go_enter Tryz.func24,Tryz.ntmps24
  go_wp2_with fail
  refine (HV.out _).mono ?_
  rintro e w1 ⟨rfl,hu1⟩
  try unfold got2
  have c1_0:=hu1.keep (w.heap.size) (0) (.int .i64 n1) (by simp [go_sem, *])
  have c1_1:=hu1.keep (w.heap.size) (1) (.int .i64 d1) (by simp [go_sem, *])
  have c1_2:=hu1.keep (w.heap.size) (2) (.int .i64 n2) (by simp [go_sem, *])
  have c1_3:=hu1.keep (w.heap.size) (3) (.int .i64 d2) (by simp [go_sem, *])
  have c1_4:=hu1.keep (w.heap.size) (4) (.int .i64 n3) (by simp [go_sem, *])
  have c1_5:=hu1.keep (w.heap.size) (5) (.int .i64 d3) (by simp [go_sem, *])
  have c1_6:=hu1.keep (w.heap.size+1) (0) (.int .i64 n) (by simp [go_sem, *])
  have c1_7:=hu1.keep (w.heap.size+1) (1) (.int .i64 d) (by simp [go_sem, *])
  have l1_0:w.heap.size<w1.heap.size:=World.block_lt_of_cell? _ _ c1_0
  have m1_0:w.heap.size<w1.heap.size+1:=by omega
  have n1_0:w.heap.size<w1.heap.size+1+1:=by omega
  have x1_0:¬ w1.heap.size=w.heap.size:=by omega
  have y1_0:¬ w1.heap.size+1=w.heap.size:=by omega
  have l1_1:w.heap.size+1<w1.heap.size:=World.block_lt_of_cell? _ _ c1_6
  have m1_1:w.heap.size+1<w1.heap.size+1:=by omega
  have n1_1:w.heap.size+1<w1.heap.size+1+1:=by omega
  have x1_1:¬ w1.heap.size=w.heap.size+1:=by omega
  have y1_1:¬ w1.heap.size+1=w.heap.size+1:=by omega
  have HU1:Hid (Up w w1):=Lib.hid (by ((repeat (first | (with_reducible exact Up.refl _) | (with_reducible refine Up.trans ?_ hu1) | (with_reducible refine Up.alloc ?_ _ _) | (with_reducible refine Up.setCell ?_ ?_ _) | (with_reducible refine Up.drewN ?_ _) | (with_reducible refine Up.drew ?_)));all_goals (first | (simp;done) | (simp;omega) | omega)))
  clear hu1
  go_wp2_with fail
  refine (HU.out _).mono ?_
  rintro e w2 ⟨rfl,hu2⟩
  try unfold got2
  have c2_0:=hu2.keep (w.heap.size) (0) (.int .i64 n1) (by simp [go_sem, *])
  have c2_1:=hu2.keep (w.heap.size) (1) (.int .i64 d1) (by simp [go_sem, *])
  have c2_2:=hu2.keep (w.heap.size) (2) (.int .i64 n2) (by simp [go_sem, *])
  have c2_3:=hu2.keep (w.heap.size) (3) (.int .i64 d2) (by simp [go_sem, *])
  have c2_4:=hu2.keep (w.heap.size) (4) (.int .i64 n3) (by simp [go_sem, *])
  have c2_5:=hu2.keep (w.heap.size) (5) (.int .i64 d3) (by simp [go_sem, *])
  have c2_6:=hu2.keep (w.heap.size+1) (0) (.int .i64 n) (by simp [go_sem, *])
  have c2_7:=hu2.keep (w.heap.size+1) (1) (.int .i64 d) (by simp [go_sem, *])
  have l2_0:w.heap.size<w2.heap.size:=World.block_lt_of_cell? _ _ c2_0
  have m2_0:w.heap.size<w2.heap.size+1:=by omega
  have n2_0:w.heap.size<w2.heap.size+1+1:=by omega
  have x2_0:¬ w2.heap.size=w.heap.size:=by omega
  have y2_0:¬ w2.heap.size+1=w.heap.size:=by omega
  have l2_1:w.heap.size+1<w2.heap.size:=World.block_lt_of_cell? _ _ c2_6
  have m2_1:w.heap.size+1<w2.heap.size+1:=by omega
  have n2_1:w.heap.size+1<w2.heap.size+1+1:=by omega
  have x2_1:¬ w2.heap.size=w.heap.size+1:=by omega
  have y2_1:¬ w2.heap.size+1=w.heap.size+1:=by omega
  have HU2:Hid (Up w w2):=Lib.hid (by ((repeat (first | (with_reducible exact Up.refl _) | (with_reducible exact HU1.out) | (with_reducible refine Up.trans ?_ hu2) | (with_reducible refine Up.alloc ?_ _ _) | (with_reducible refine Up.setCell ?_ ?_ _) | (with_reducible refine Up.drewN ?_ _) | (with_reducible refine Up.drew ?_)));all_goals (first | (simp;done) | (simp;omega) | omega)))
  clear hu2 c1_0 c1_1 c1_2 c1_3 c1_4 c1_5 c1_6 c1_7
  go_wp2_with fail
  refine (HP1.out _).mono ?_
  rintro e w3 ⟨rfl,hu3⟩
  try unfold got2
  have c3_0:=hu3.keep (w.heap.size) (0) (.int .i64 n1) (by simp [go_sem, *])
  have c3_1:=hu3.keep (w.heap.size) (1) (.int .i64 d1) (by simp [go_sem, *])
  have c3_2:=hu3.keep (w.heap.size) (2) (.int .i64 n2) (by simp [go_sem, *])
  have c3_3:=hu3.keep (w.heap.size) (3) (.int .i64 d2) (by simp [go_sem, *])
  have c3_4:=hu3.keep (w.heap.size) (4) (.int .i64 n3) (by simp [go_sem, *])
  have c3_5:=hu3.keep (w.heap.size) (5) (.int .i64 d3) (by simp [go_sem, *])
  have c3_6:=hu3.keep (w.heap.size+1) (0) (.int .i64 n) (by simp [go_sem, *])
  have c3_7:=hu3.keep (w.heap.size+1) (1) (.int .i64 d) (by simp [go_sem, *])
  have l3_0:w.heap.size<w3.heap.size:=World.block_lt_of_cell? _ _ c3_0
  have m3_0:w.heap.size<w3.heap.size+1:=by omega
  have n3_0:w.heap.size<w3.heap.size+1+1:=by omega
  have x3_0:¬ w3.heap.size=w.heap.size:=by omega
  have y3_0:¬ w3.heap.size+1=w.heap.size:=by omega
  have l3_1:w.heap.size+1<w3.heap.size:=World.block_lt_of_cell? _ _ c3_6
  have m3_1:w.heap.size+1<w3.heap.size+1:=by omega
  have n3_1:w.heap.size+1<w3.heap.size+1+1:=by omega
  have x3_1:¬ w3.heap.size=w.heap.size+1:=by omega
  have y3_1:¬ w3.heap.size+1=w.heap.size+1:=by omega
  have HU3:Hid (Up w w3):=Lib.hid (by ((repeat (first | (with_reducible exact Up.refl _) | (with_reducible exact HU2.out) | (with_reducible refine Up.trans ?_ hu3) | (with_reducible refine Up.alloc ?_ _ _) | (with_reducible refine Up.setCell ?_ ?_ _) | (with_reducible refine Up.drewN ?_ _) | (with_reducible refine Up.drew ?_)));all_goals (first | (simp;done) | (simp;omega) | omega)))
  clear hu3 c2_0 c2_1 c2_2 c2_3 c2_4 c2_5 c2_6 c2_7
  go_wp2_with fail
  refine (HP2.out _).mono ?_
  rintro e w4 ⟨rfl,hu4⟩
  try unfold got2
  have c4_0:=hu4.keep (w.heap.size) (0) (.int .i64 n1) (by simp [go_sem, *])
  have c4_1:=hu4.keep (w.heap.size) (1) (.int .i64 d1) (by simp [go_sem, *])
  have c4_2:=hu4.keep (w.heap.size) (2) (.int .i64 n2) (by simp [go_sem, *])
  have c4_3:=hu4.keep (w.heap.size) (3) (.int .i64 d2) (by simp [go_sem, *])
  have c4_4:=hu4.keep (w.heap.size) (4) (.int .i64 n3) (by simp [go_sem, *])
  have c4_5:=hu4.keep (w.heap.size) (5) (.int .i64 d3) (by simp [go_sem, *])
  have c4_6:=hu4.keep (w.heap.size+1) (0) (.int .i64 n) (by simp [go_sem, *])
  have c4_7:=hu4.keep (w.heap.size+1) (1) (.int .i64 d) (by simp [go_sem, *])
  have c4_8:=hu4.keep (w3.heap.size) (0) (.int .u64 (hiZ kd)) (by simp [go_sem, *])
  have c4_9:=hu4.keep (w3.heap.size) (1) (.int .u64 (loZ kd)) (by simp [go_sem, *])
  have l4_0:w.heap.size<w4.heap.size:=World.block_lt_of_cell? _ _ c4_0
  have m4_0:w.heap.size<w4.heap.size+1:=by omega
  have n4_0:w.heap.size<w4.heap.size+1+1:=by omega
  have x4_0:¬ w4.heap.size=w.heap.size:=by omega
  have y4_0:¬ w4.heap.size+1=w.heap.size:=by omega
  have l4_1:w.heap.size+1<w4.heap.size:=World.block_lt_of_cell? _ _ c4_6
  have m4_1:w.heap.size+1<w4.heap.size+1:=by omega
  have n4_1:w.heap.size+1<w4.heap.size+1+1:=by omega
  have x4_1:¬ w4.heap.size=w.heap.size+1:=by omega
  have y4_1:¬ w4.heap.size+1=w.heap.size+1:=by omega
  have l4_2:w3.heap.size<w4.heap.size:=World.block_lt_of_cell? _ _ c4_8
  have m4_2:w3.heap.size<w4.heap.size+1:=by omega
  have n4_2:w3.heap.size<w4.heap.size+1+1:=by omega
  have x4_2:¬ w4.heap.size=w3.heap.size:=by omega
  have y4_2:¬ w4.heap.size+1=w3.heap.size:=by omega
  have HU4:Hid (Up w w4):=Lib.hid (by ((repeat (first | (with_reducible exact Up.refl _) | (with_reducible exact HU3.out) | (with_reducible refine Up.trans ?_ hu4) | (with_reducible refine Up.alloc ?_ _ _) | (with_reducible refine Up.setCell ?_ ?_ _) | (with_reducible refine Up.drewN ?_ _) | (with_reducible refine Up.drew ?_)));all_goals (first | (simp;done) | (simp;omega) | omega)))
  clear hu4 c3_0 c3_1 c3_2 c3_3 c3_4 c3_5 c3_6 c3_7
  go_wp2_with fail
  go_region_held3 (fun w'=>Up w w'∧w'.cell? ⟨w.heap.size,0,none⟩=some (.int .i64 n1)∧w'.cell? ⟨w.heap.size,1,none⟩=some (.int .i64 d1)∧w'.cell? ⟨w.heap.size,2,none⟩=some (.int .i64 n2)∧w'.cell? ⟨w.heap.size,3,none⟩=some (.int .i64 d2)∧w'.cell? ⟨w.heap.size,4,none⟩=some (.int .i64 n3)∧w'.cell? ⟨w.heap.size,5,none⟩=some (.int .i64 d3)∧w'.cell? ⟨w.heap.size+1,0,none⟩=some (.int .i64 n)∧w'.cell? ⟨w3.heap.size,0,none⟩=some (.int .u64 (hiZ kd))∧w'.cell? ⟨w3.heap.size,1,none⟩=some (.int .u64 (loZ kd))∧w'.cell? ⟨w4.heap.size,0,none⟩=some (.int .u64 (hiZ dd))∧w'.cell? ⟨w4.heap.size,1,none⟩=some (.int .u64 (loZ dd))∧w'.cell? ⟨w.heap.size+1,1,none⟩=some (.int .i64 d))
    (first | (with_reducible exact keep12 (by assumption) (by assumption)) | (refine ⟨?_,by simp [go_sem, *],by simp [go_sem, *],by simp [go_sem, *],by simp [go_sem, *],by simp [go_sem, *],by simp [go_sem, *],by simp [go_sem, *],by simp [go_sem, *],by simp [go_sem, *],by simp [go_sem, *],by simp [go_sem, *],by simp [go_sem, *]⟩;((repeat (first | (with_reducible exact Up.refl _) | (with_reducible exact HU4.out) | (with_reducible refine Up.alloc ?_ _ _) | (with_reducible refine Up.setCell ?_ ?_ _) | (with_reducible refine Up.drewN ?_ _) | (with_reducible refine Up.drew ?_)));all_goals (first | (simp;done) | (simp;omega) | omega))))
    (first
      | (go_at_call 59;(with_reducible refine (HWd.out _).mono ?_);rintro e w' ⟨rfl,hu⟩;have HU:=Lib.hid hu;clear hu;(try unfold got2);(try unfold gotR))
      | (go_at_call 58;(with_reducible refine (HQ1.out _).mono ?_);rintro e w' ⟨rfl,hu⟩;have HU:=Lib.hid hu;clear hu;(try unfold got2);(try unfold gotR))
      | (go_at_call 60;(with_reducible refine (of_up n _).mono ?_);rintro e w' ⟨rfl,hu⟩;have HU:=Lib.hid hu;clear hu;(try unfold got2);(try unfold gotR))
      | (go_at_call 58;(with_reducible refine (HQ2.out _).mono ?_);rintro e w' ⟨rfl,hu⟩;have HU:=Lib.hid hu;clear hu;(try unfold got2);(try unfold gotR))
      | (go_at_call 57;(with_reducible refine (HA.out _).mono ?_);rintro e w' ⟨rfl,hu⟩;have HU:=Lib.hid hu;clear hu;(try unfold got2);(try unfold gotR)))
  all_goals
    go_wp2_with fail
    go_ret
    exact ⟨by rw [HM.out];rfl,And.left (by assumption)⟩

end Go.Proofs.YtafkoddgefcpnaaGreat
