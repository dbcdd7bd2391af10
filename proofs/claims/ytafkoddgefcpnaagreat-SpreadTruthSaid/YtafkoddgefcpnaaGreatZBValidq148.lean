/- Texts of these claims, one after the other. -/
import Derived.Test.YtafkoddgefcpnaaGreatRows
import Derived.Test.YtafkoddgefcpnaaGreatZBMathq140
namespace Go.Proofs.YtafkoddgefcpnaaGreat
open Go.RowKit

set_option maxHeartbeats 4000000 in
set_option maxRecDepth 100000 in
theorem bvalid_up (n1 d1 n2 d2 n3 d3:Int) (in1:In n1) (id1:In d1) (in2:In n2) (id2:In d2) (in3:In n3) (id3:In d3) (w:World) :
    Calls Tryz.prog 53 #[.agg #[.int .i64 n1,.int .i64 d1,.int .i64 n2,.int .i64 d2,.int .i64 n3,.int .i64 d3]] w fun e w'=>e=.returned (.bool (bvB n1 d1 n2 d2 n3 d3))∧Up w w':=by
  have H1:=Lib.hid (fun W=>valid_up n1 d1 in1 id1 W)
  have H2:=Lib.hid (fun W=>valid_up n2 d2 in2 id2 W)
  have H3:=Lib.hid (fun W=>valid_up n3 d3 in3 id3 W)
  have H4:=Lib.hid (fun W=>comparer_up n1 d1 n2 d2 in1 id1 in2 id2 W)
  have H5:=Lib.hid (fun W=>comparer_up n2 d2 n3 d3 in2 id2 in3 id3 W)
  have HR:=Lib.hid (show bvB n1 d1 n2 d2 n3 d3=(validB n1 d1 && (validB n2 d2 && (validB n3 d3 && (decide (cmpR n1 d1 n2 d2≤0) && decide (cmpR n2 d2 n3 d3≤0))))) from rfl)
  generalize bvB n1 d1 n2 d2 n3 d3=r at *
  generalize validB n1 d1=p1 at *
  generalize validB n2 d2=p2 at *
  generalize validB n3 d3=p3 at *
  generalize cmpR n1 d1 n2 d2=x at *
  generalize cmpR n2 d2 n3 d3=y at *
  clear in1 id1 in2 id2 in3 id3
  cases p1
  case false =>
    go_enter Tryz.func53,Tryz.ntmps53
    go_wp2_with fail
    refine (H1.out _).mono ?_
    rintro e w1 ⟨rfl,hu1⟩
    try unfold got2
    have c1_0:=hu1.keep (w.heap.size) (0) (.int .i64 n1) (by simp [go_sem, *])
    have c1_1:=hu1.keep (w.heap.size) (1) (.int .i64 d1) (by simp [go_sem, *])
    have c1_2:=hu1.keep (w.heap.size) (2) (.int .i64 n2) (by simp [go_sem, *])
    have c1_3:=hu1.keep (w.heap.size) (3) (.int .i64 d2) (by simp [go_sem, *])
    have c1_4:=hu1.keep (w.heap.size) (4) (.int .i64 n3) (by simp [go_sem, *])
    have c1_5:=hu1.keep (w.heap.size) (5) (.int .i64 d3) (by simp [go_sem, *])
    have l1_0:w.heap.size<w1.heap.size:=World.block_lt_of_cell? _ _ c1_0
    have m1_0:w.heap.size<w1.heap.size+1:=by omega
    have n1_0:w.heap.size<w1.heap.size+1+1:=by omega
    have x1_0:¬ w1.heap.size=w.heap.size:=by omega
    have y1_0:¬ w1.heap.size+1=w.heap.size:=by omega
    have HU1:Hid (Up w w1):=Lib.hid (by ((repeat (first | (with_reducible exact Up.refl _) | (with_reducible refine Up.trans ?_ hu1) | (with_reducible refine Up.alloc ?_ _ _) | (with_reducible refine Up.setCell ?_ ?_ _) | (with_reducible refine Up.drewN ?_ _) | (with_reducible refine Up.drew ?_)));all_goals (first | (simp;done) | (simp;omega) | omega)))
    clear hu1
    go_wp2_with fail
    go_ret
    exact ⟨by (rw [HR.out];first | done | rfl | (simp only [*];first | done | rfl)),HU1.out⟩
  cases p2
  case false =>
    go_enter Tryz.func53,Tryz.ntmps53
    go_wp2_with fail
    refine (H1.out _).mono ?_
    rintro e w1 ⟨rfl,hu1⟩
    try unfold got2
    have c1_0:=hu1.keep (w.heap.size) (0) (.int .i64 n1) (by simp [go_sem, *])
    have c1_1:=hu1.keep (w.heap.size) (1) (.int .i64 d1) (by simp [go_sem, *])
    have c1_2:=hu1.keep (w.heap.size) (2) (.int .i64 n2) (by simp [go_sem, *])
    have c1_3:=hu1.keep (w.heap.size) (3) (.int .i64 d2) (by simp [go_sem, *])
    have c1_4:=hu1.keep (w.heap.size) (4) (.int .i64 n3) (by simp [go_sem, *])
    have c1_5:=hu1.keep (w.heap.size) (5) (.int .i64 d3) (by simp [go_sem, *])
    have l1_0:w.heap.size<w1.heap.size:=World.block_lt_of_cell? _ _ c1_0
    have m1_0:w.heap.size<w1.heap.size+1:=by omega
    have n1_0:w.heap.size<w1.heap.size+1+1:=by omega
    have x1_0:¬ w1.heap.size=w.heap.size:=by omega
    have y1_0:¬ w1.heap.size+1=w.heap.size:=by omega
    have HU1:Hid (Up w w1):=Lib.hid (by ((repeat (first | (with_reducible exact Up.refl _) | (with_reducible refine Up.trans ?_ hu1) | (with_reducible refine Up.alloc ?_ _ _) | (with_reducible refine Up.setCell ?_ ?_ _) | (with_reducible refine Up.drewN ?_ _) | (with_reducible refine Up.drew ?_)));all_goals (first | (simp;done) | (simp;omega) | omega)))
    clear hu1
    go_wp2_with fail
    refine (H2.out _).mono ?_
    rintro e w2 ⟨rfl,hu2⟩
    try unfold got2
    have c2_0:=hu2.keep (w.heap.size) (0) (.int .i64 n1) (by simp [go_sem, *])
    have c2_1:=hu2.keep (w.heap.size) (1) (.int .i64 d1) (by simp [go_sem, *])
    have c2_2:=hu2.keep (w.heap.size) (2) (.int .i64 n2) (by simp [go_sem, *])
    have c2_3:=hu2.keep (w.heap.size) (3) (.int .i64 d2) (by simp [go_sem, *])
    have c2_4:=hu2.keep (w.heap.size) (4) (.int .i64 n3) (by simp [go_sem, *])
    have c2_5:=hu2.keep (w.heap.size) (5) (.int .i64 d3) (by simp [go_sem, *])
    have l2_0:w.heap.size<w2.heap.size:=World.block_lt_of_cell? _ _ c2_0
    have m2_0:w.heap.size<w2.heap.size+1:=by omega
    have n2_0:w.heap.size<w2.heap.size+1+1:=by omega
    have x2_0:¬ w2.heap.size=w.heap.size:=by omega
    have y2_0:¬ w2.heap.size+1=w.heap.size:=by omega
    have HU2:Hid (Up w w2):=Lib.hid (by ((repeat (first | (with_reducible exact Up.refl _) | (with_reducible exact HU1.out) | (with_reducible refine Up.trans ?_ hu2) | (with_reducible refine Up.alloc ?_ _ _) | (with_reducible refine Up.setCell ?_ ?_ _) | (with_reducible refine Up.drewN ?_ _) | (with_reducible refine Up.drew ?_)));all_goals (first | (simp;done) | (simp;omega) | omega)))
    clear hu2 c1_0 c1_1 c1_2 c1_3 c1_4 c1_5
    go_wp2_with fail
    go_ret
    exact ⟨by (rw [HR.out];first | done | rfl | (simp only [*];first | done | rfl)),HU2.out⟩
  cases p3
  case false =>
    go_enter Tryz.func53,Tryz.ntmps53
    go_wp2_with fail
    refine (H1.out _).mono ?_
    rintro e w1 ⟨rfl,hu1⟩
    try unfold got2
    have c1_0:=hu1.keep (w.heap.size) (0) (.int .i64 n1) (by simp [go_sem, *])
    have c1_1:=hu1.keep (w.heap.size) (1) (.int .i64 d1) (by simp [go_sem, *])
    have c1_2:=hu1.keep (w.heap.size) (2) (.int .i64 n2) (by simp [go_sem, *])
    have c1_3:=hu1.keep (w.heap.size) (3) (.int .i64 d2) (by simp [go_sem, *])
    have c1_4:=hu1.keep (w.heap.size) (4) (.int .i64 n3) (by simp [go_sem, *])
    have c1_5:=hu1.keep (w.heap.size) (5) (.int .i64 d3) (by simp [go_sem, *])
    have l1_0:w.heap.size<w1.heap.size:=World.block_lt_of_cell? _ _ c1_0
    have m1_0:w.heap.size<w1.heap.size+1:=by omega
    have n1_0:w.heap.size<w1.heap.size+1+1:=by omega
    have x1_0:¬ w1.heap.size=w.heap.size:=by omega
    have y1_0:¬ w1.heap.size+1=w.heap.size:=by omega
    have HU1:Hid (Up w w1):=Lib.hid (by ((repeat (first | (with_reducible exact Up.refl _) | (with_reducible refine Up.trans ?_ hu1) | (with_reducible refine Up.alloc ?_ _ _) | (with_reducible refine Up.setCell ?_ ?_ _) | (with_reducible refine Up.drewN ?_ _) | (with_reducible refine Up.drew ?_)));all_goals (first | (simp;done) | (simp;omega) | omega)))
    clear hu1
    go_wp2_with fail
    refine (H2.out _).mono ?_
    rintro e w2 ⟨rfl,hu2⟩
    try unfold got2
    have c2_0:=hu2.keep (w.heap.size) (0) (.int .i64 n1) (by simp [go_sem, *])
    have c2_1:=hu2.keep (w.heap.size) (1) (.int .i64 d1) (by simp [go_sem, *])
    have c2_2:=hu2.keep (w.heap.size) (2) (.int .i64 n2) (by simp [go_sem, *])
    have c2_3:=hu2.keep (w.heap.size) (3) (.int .i64 d2) (by simp [go_sem, *])
    have c2_4:=hu2.keep (w.heap.size) (4) (.int .i64 n3) (by simp [go_sem, *])
    have c2_5:=hu2.keep (w.heap.size) (5) (.int .i64 d3) (by simp [go_sem, *])
    have l2_0:w.heap.size<w2.heap.size:=World.block_lt_of_cell? _ _ c2_0
    have m2_0:w.heap.size<w2.heap.size+1:=by omega
    have n2_0:w.heap.size<w2.heap.size+1+1:=by omega
    have x2_0:¬ w2.heap.size=w.heap.size:=by omega
    have y2_0:¬ w2.heap.size+1=w.heap.size:=by omega
    have HU2:Hid (Up w w2):=Lib.hid (by ((repeat (first | (with_reducible exact Up.refl _) | (with_reducible exact HU1.out) | (with_reducible refine Up.trans ?_ hu2) | (with_reducible refine Up.alloc ?_ _ _) | (with_reducible refine Up.setCell ?_ ?_ _) | (with_reducible refine Up.drewN ?_ _) | (with_reducible refine Up.drew ?_)));all_goals (first | (simp;done) | (simp;omega) | omega)))
    clear hu2 c1_0 c1_1 c1_2 c1_3 c1_4 c1_5
    go_wp2_with fail
    refine (H3.out _).mono ?_
    rintro e w3 ⟨rfl,hu3⟩
    try unfold got2
    have c3_0:=hu3.keep (w.heap.size) (0) (.int .i64 n1) (by simp [go_sem, *])
    have c3_1:=hu3.keep (w.heap.size) (1) (.int .i64 d1) (by simp [go_sem, *])
    have c3_2:=hu3.keep (w.heap.size) (2) (.int .i64 n2) (by simp [go_sem, *])
    have c3_3:=hu3.keep (w.heap.size) (3) (.int .i64 d2) (by simp [go_sem, *])
    have c3_4:=hu3.keep (w.heap.size) (4) (.int .i64 n3) (by simp [go_sem, *])
    have c3_5:=hu3.keep (w.heap.size) (5) (.int .i64 d3) (by simp [go_sem, *])
    have l3_0:w.heap.size<w3.heap.size:=World.block_lt_of_cell? _ _ c3_0
    have m3_0:w.heap.size<w3.heap.size+1:=by omega
    have n3_0:w.heap.size<w3.heap.size+1+1:=by omega
    have x3_0:¬ w3.heap.size=w.heap.size:=by omega
    have y3_0:¬ w3.heap.size+1=w.heap.size:=by omega
    have HU3:Hid (Up w w3):=Lib.hid (by ((repeat (first | (with_reducible exact Up.refl _) | (with_reducible exact HU2.out) | (with_reducible refine Up.trans ?_ hu3) | (with_reducible refine Up.alloc ?_ _ _) | (with_reducible refine Up.setCell ?_ ?_ _) | (with_reducible refine Up.drewN ?_ _) | (with_reducible refine Up.drew ?_)));all_goals (first | (simp;done) | (simp;omega) | omega)))
    clear hu3 c2_0 c2_1 c2_2 c2_3 c2_4 c2_5
    go_wp2_with fail
    go_ret
    exact ⟨by (rw [HR.out];first | done | rfl | (simp only [*];first | done | rfl)),HU3.out⟩
  by_cases hx:x≤0
  case neg =>
    have t:decide (x≤0)=false:=decide_eq_false hx
    clear hx
    go_enter Tryz.func53,Tryz.ntmps53
    go_wp2_with fail
    refine (H1.out _).mono ?_
    rintro e w1 ⟨rfl,hu1⟩
    try unfold got2
    have c1_0:=hu1.keep (w.heap.size) (0) (.int .i64 n1) (by simp [go_sem, *])
    have c1_1:=hu1.keep (w.heap.size) (1) (.int .i64 d1) (by simp [go_sem, *])
    have c1_2:=hu1.keep (w.heap.size) (2) (.int .i64 n2) (by simp [go_sem, *])
    have c1_3:=hu1.keep (w.heap.size) (3) (.int .i64 d2) (by simp [go_sem, *])
    have c1_4:=hu1.keep (w.heap.size) (4) (.int .i64 n3) (by simp [go_sem, *])
    have c1_5:=hu1.keep (w.heap.size) (5) (.int .i64 d3) (by simp [go_sem, *])
    have l1_0:w.heap.size<w1.heap.size:=World.block_lt_of_cell? _ _ c1_0
    have m1_0:w.heap.size<w1.heap.size+1:=by omega
    have n1_0:w.heap.size<w1.heap.size+1+1:=by omega
    have x1_0:¬ w1.heap.size=w.heap.size:=by omega
    have y1_0:¬ w1.heap.size+1=w.heap.size:=by omega
    have HU1:Hid (Up w w1):=Lib.hid (by ((repeat (first | (with_reducible exact Up.refl _) | (with_reducible refine Up.trans ?_ hu1) | (with_reducible refine Up.alloc ?_ _ _) | (with_reducible refine Up.setCell ?_ ?_ _) | (with_reducible refine Up.drewN ?_ _) | (with_reducible refine Up.drew ?_)));all_goals (first | (simp;done) | (simp;omega) | omega)))
    clear hu1
    go_wp2_with fail
    refine (H2.out _).mono ?_
    rintro e w2 ⟨rfl,hu2⟩
    try unfold got2
    have c2_0:=hu2.keep (w.heap.size) (0) (.int .i64 n1) (by simp [go_sem, *])
    have c2_1:=hu2.keep (w.heap.size) (1) (.int .i64 d1) (by simp [go_sem, *])
    have c2_2:=hu2.keep (w.heap.size) (2) (.int .i64 n2) (by simp [go_sem, *])
    have c2_3:=hu2.keep (w.heap.size) (3) (.int .i64 d2) (by simp [go_sem, *])
    have c2_4:=hu2.keep (w.heap.size) (4) (.int .i64 n3) (by simp [go_sem, *])
    have c2_5:=hu2.keep (w.heap.size) (5) (.int .i64 d3) (by simp [go_sem, *])
    have l2_0:w.heap.size<w2.heap.size:=World.block_lt_of_cell? _ _ c2_0
    have m2_0:w.heap.size<w2.heap.size+1:=by omega
    have n2_0:w.heap.size<w2.heap.size+1+1:=by omega
    have x2_0:¬ w2.heap.size=w.heap.size:=by omega
    have y2_0:¬ w2.heap.size+1=w.heap.size:=by omega
    have HU2:Hid (Up w w2):=Lib.hid (by ((repeat (first | (with_reducible exact Up.refl _) | (with_reducible exact HU1.out) | (with_reducible refine Up.trans ?_ hu2) | (with_reducible refine Up.alloc ?_ _ _) | (with_reducible refine Up.setCell ?_ ?_ _) | (with_reducible refine Up.drewN ?_ _) | (with_reducible refine Up.drew ?_)));all_goals (first | (simp;done) | (simp;omega) | omega)))
    clear hu2 c1_0 c1_1 c1_2 c1_3 c1_4 c1_5
    go_wp2_with fail
    refine (H3.out _).mono ?_
    rintro e w3 ⟨rfl,hu3⟩
    try unfold got2
    have c3_0:=hu3.keep (w.heap.size) (0) (.int .i64 n1) (by simp [go_sem, *])
    have c3_1:=hu3.keep (w.heap.size) (1) (.int .i64 d1) (by simp [go_sem, *])
    have c3_2:=hu3.keep (w.heap.size) (2) (.int .i64 n2) (by simp [go_sem, *])
    have c3_3:=hu3.keep (w.heap.size) (3) (.int .i64 d2) (by simp [go_sem, *])
    have c3_4:=hu3.keep (w.heap.size) (4) (.int .i64 n3) (by simp [go_sem, *])
    have c3_5:=hu3.keep (w.heap.size) (5) (.int .i64 d3) (by simp [go_sem, *])
    have l3_0:w.heap.size<w3.heap.size:=World.block_lt_of_cell? _ _ c3_0
    have m3_0:w.heap.size<w3.heap.size+1:=by omega
    have n3_0:w.heap.size<w3.heap.size+1+1:=by omega
    have x3_0:¬ w3.heap.size=w.heap.size:=by omega
    have y3_0:¬ w3.heap.size+1=w.heap.size:=by omega
    have HU3:Hid (Up w w3):=Lib.hid (by ((repeat (first | (with_reducible exact Up.refl _) | (with_reducible exact HU2.out) | (with_reducible refine Up.trans ?_ hu3) | (with_reducible refine Up.alloc ?_ _ _) | (with_reducible refine Up.setCell ?_ ?_ _) | (with_reducible refine Up.drewN ?_ _) | (with_reducible refine Up.drew ?_)));all_goals (first | (simp;done) | (simp;omega) | omega)))
    clear hu3 c2_0 c2_1 c2_2 c2_3 c2_4 c2_5
    go_wp2_with fail
    refine (H4.out _).mono ?_
    rintro e w4 ⟨rfl,hu4⟩
    try unfold got2
    have c4_0:=hu4.keep (w.heap.size) (0) (.int .i64 n1) (by simp [go_sem, *])
    have c4_1:=hu4.keep (w.heap.size) (1) (.int .i64 d1) (by simp [go_sem, *])
    have c4_2:=hu4.keep (w.heap.size) (2) (.int .i64 n2) (by simp [go_sem, *])
    have c4_3:=hu4.keep (w.heap.size) (3) (.int .i64 d2) (by simp [go_sem, *])
    have c4_4:=hu4.keep (w.heap.size) (4) (.int .i64 n3) (by simp [go_sem, *])
    have c4_5:=hu4.keep (w.heap.size) (5) (.int .i64 d3) (by simp [go_sem, *])
    have l4_0:w.heap.size<w4.heap.size:=World.block_lt_of_cell? _ _ c4_0
    have m4_0:w.heap.size<w4.heap.size+1:=by omega
    have n4_0:w.heap.size<w4.heap.size+1+1:=by omega
    have x4_0:¬ w4.heap.size=w.heap.size:=by omega
    have y4_0:¬ w4.heap.size+1=w.heap.size:=by omega
    have HU4:Hid (Up w w4):=Lib.hid (by ((repeat (first | (with_reducible exact Up.refl _) | (with_reducible exact HU3.out) | (with_reducible refine Up.trans ?_ hu4) | (with_reducible refine Up.alloc ?_ _ _) | (with_reducible refine Up.setCell ?_ ?_ _) | (with_reducible refine Up.drewN ?_ _) | (with_reducible refine Up.drew ?_)));all_goals (first | (simp;done) | (simp;omega) | omega)))
    clear hu4 c3_0 c3_1 c3_2 c3_3 c3_4 c3_5
    go_wp2_with fail
    go_ret
    exact ⟨by (rw [HR.out];first | done | rfl | (simp only [*];first | done | rfl)),HU4.out⟩
  have t:decide (x≤0)=true:=decide_eq_true hx
  clear hx
  go_enter Tryz.func53,Tryz.ntmps53
  go_wp2_with fail
  refine (H1.out _).mono ?_
  rintro e w1 ⟨rfl,hu1⟩
  try unfold got2
  have c1_0:=hu1.keep (w.heap.size) (0) (.int .i64 n1) (by simp [go_sem, *])
  have c1_1:=hu1.keep (w.heap.size) (1) (.int .i64 d1) (by simp [go_sem, *])
  have c1_2:=hu1.keep (w.heap.size) (2) (.int .i64 n2) (by simp [go_sem, *])
  have c1_3:=hu1.keep (w.heap.size) (3) (.int .i64 d2) (by simp [go_sem, *])
  have c1_4:=hu1.keep (w.heap.size) (4) (.int .i64 n3) (by simp [go_sem, *])
  have c1_5:=hu1.keep (w.heap.size) (5) (.int .i64 d3) (by simp [go_sem, *])
  have l1_0:w.heap.size<w1.heap.size:=World.block_lt_of_cell? _ _ c1_0
  have m1_0:w.heap.size<w1.heap.size+1:=by omega
  have n1_0:w.heap.size<w1.heap.size+1+1:=by omega
  have x1_0:¬ w1.heap.size=w.heap.size:=by omega
  have y1_0:¬ w1.heap.size+1=w.heap.size:=by omega
  have HU1:Hid (Up w w1):=Lib.hid (by ((repeat (first | (with_reducible exact Up.refl _) | (with_reducible refine Up.trans ?_ hu1) | (with_reducible refine Up.alloc ?_ _ _) | (with_reducible refine Up.setCell ?_ ?_ _) | (with_reducible refine Up.drewN ?_ _) | (with_reducible refine Up.drew ?_)));all_goals (first | (simp;done) | (simp;omega) | omega)))
  clear hu1
  go_wp2_with fail
  refine (H2.out _).mono ?_
  rintro e w2 ⟨rfl,hu2⟩
  try unfold got2
  have c2_0:=hu2.keep (w.heap.size) (0) (.int .i64 n1) (by simp [go_sem, *])
  have c2_1:=hu2.keep (w.heap.size) (1) (.int .i64 d1) (by simp [go_sem, *])
  have c2_2:=hu2.keep (w.heap.size) (2) (.int .i64 n2) (by simp [go_sem, *])
  have c2_3:=hu2.keep (w.heap.size) (3) (.int .i64 d2) (by simp [go_sem, *])
  have c2_4:=hu2.keep (w.heap.size) (4) (.int .i64 n3) (by simp [go_sem, *])
  have c2_5:=hu2.keep (w.heap.size) (5) (.int .i64 d3) (by simp [go_sem, *])
  have l2_0:w.heap.size<w2.heap.size:=World.block_lt_of_cell? _ _ c2_0
  have m2_0:w.heap.size<w2.heap.size+1:=by omega
  have n2_0:w.heap.size<w2.heap.size+1+1:=by omega
  have x2_0:¬ w2.heap.size=w.heap.size:=by omega
  have y2_0:¬ w2.heap.size+1=w.heap.size:=by omega
  have HU2:Hid (Up w w2):=Lib.hid (by ((repeat (first | (with_reducible exact Up.refl _) | (with_reducible exact HU1.out) | (with_reducible refine Up.trans ?_ hu2) | (with_reducible refine Up.alloc ?_ _ _) | (with_reducible refine Up.setCell ?_ ?_ _) | (with_reducible refine Up.drewN ?_ _) | (with_reducible refine Up.drew ?_)));all_goals (first | (simp;done) | (simp;omega) | omega)))
  clear hu2 c1_0 c1_1 c1_2 c1_3 c1_4 c1_5
  go_wp2_with fail
  refine (H3.out _).mono ?_
  rintro e w3 ⟨rfl,hu3⟩
  try unfold got2
  have c3_0:=hu3.keep (w.heap.size) (0) (.int .i64 n1) (by simp [go_sem, *])
  have c3_1:=hu3.keep (w.heap.size) (1) (.int .i64 d1) (by simp [go_sem, *])
  have c3_2:=hu3.keep (w.heap.size) (2) (.int .i64 n2) (by simp [go_sem, *])
  have c3_3:=hu3.keep (w.heap.size) (3) (.int .i64 d2) (by simp [go_sem, *])
  have c3_4:=hu3.keep (w.heap.size) (4) (.int .i64 n3) (by simp [go_sem, *])
  have c3_5:=hu3.keep (w.heap.size) (5) (.int .i64 d3) (by simp [go_sem, *])
  have l3_0:w.heap.size<w3.heap.size:=World.block_lt_of_cell? _ _ c3_0
  have m3_0:w.heap.size<w3.heap.size+1:=by omega
  have n3_0:w.heap.size<w3.heap.size+1+1:=by omega
  have x3_0:¬ w3.heap.size=w.heap.size:=by omega
  have y3_0:¬ w3.heap.size+1=w.heap.size:=by omega
  have HU3:Hid (Up w w3):=Lib.hid (by ((repeat (first | (with_reducible exact Up.refl _) | (with_reducible exact HU2.out) | (with_reducible refine Up.trans ?_ hu3) | (with_reducible refine Up.alloc ?_ _ _) | (with_reducible refine Up.setCell ?_ ?_ _) | (with_reducible refine Up.drewN ?_ _) | (with_reducible refine Up.drew ?_)));all_goals (first | (simp;done) | (simp;omega) | omega)))
  clear hu3 c2_0 c2_1 c2_2 c2_3 c2_4 c2_5
  go_wp2_with fail
  refine (H4.out _).mono ?_
  rintro e w4 ⟨rfl,hu4⟩
  try unfold got2
  have c4_0:=hu4.keep (w.heap.size) (0) (.int .i64 n1) (by simp [go_sem, *])
  have c4_1:=hu4.keep (w.heap.size) (1) (.int .i64 d1) (by simp [go_sem, *])
  have c4_2:=hu4.keep (w.heap.size) (2) (.int .i64 n2) (by simp [go_sem, *])
  have c4_3:=hu4.keep (w.heap.size) (3) (.int .i64 d2) (by simp [go_sem, *])
  have c4_4:=hu4.keep (w.heap.size) (4) (.int .i64 n3) (by simp [go_sem, *])
  have c4_5:=hu4.keep (w.heap.size) (5) (.int .i64 d3) (by simp [go_sem, *])
  have l4_0:w.heap.size<w4.heap.size:=World.block_lt_of_cell? _ _ c4_0
  have m4_0:w.heap.size<w4.heap.size+1:=by omega
  have n4_0:w.heap.size<w4.heap.size+1+1:=by omega
  have x4_0:¬ w4.heap.size=w.heap.size:=by omega
  have y4_0:¬ w4.heap.size+1=w.heap.size:=by omega
  have HU4:Hid (Up w w4):=Lib.hid (by ((repeat (first | (with_reducible exact Up.refl _) | (with_reducible exact HU3.out) | (with_reducible refine Up.trans ?_ hu4) | (with_reducible refine Up.alloc ?_ _ _) | (with_reducible refine Up.setCell ?_ ?_ _) | (with_reducible refine Up.drewN ?_ _) | (with_reducible refine Up.drew ?_)));all_goals (first | (simp;done) | (simp;omega) | omega)))
  clear hu4 c3_0 c3_1 c3_2 c3_3 c3_4 c3_5
  go_wp2_with fail
  refine (H5.out _).mono ?_
  rintro e w5 ⟨rfl,hu5⟩
  try unfold got2
  have c5_0:=hu5.keep (w.heap.size) (0) (.int .i64 n1) (by simp [go_sem, *])
  have c5_1:=hu5.keep (w.heap.size) (1) (.int .i64 d1) (by simp [go_sem, *])
  have c5_2:=hu5.keep (w.heap.size) (2) (.int .i64 n2) (by simp [go_sem, *])
  have c5_3:=hu5.keep (w.heap.size) (3) (.int .i64 d2) (by simp [go_sem, *])
  have c5_4:=hu5.keep (w.heap.size) (4) (.int .i64 n3) (by simp [go_sem, *])
  have c5_5:=hu5.keep (w.heap.size) (5) (.int .i64 d3) (by simp [go_sem, *])
  have l5_0:w.heap.size<w5.heap.size:=World.block_lt_of_cell? _ _ c5_0
  have m5_0:w.heap.size<w5.heap.size+1:=by omega
  have n5_0:w.heap.size<w5.heap.size+1+1:=by omega
  have x5_0:¬ w5.heap.size=w.heap.size:=by omega
  have y5_0:¬ w5.heap.size+1=w.heap.size:=by omega
  have HU5:Hid (Up w w5):=Lib.hid (by ((repeat (first | (with_reducible exact Up.refl _) | (with_reducible exact HU4.out) | (with_reducible refine Up.trans ?_ hu5) | (with_reducible refine Up.alloc ?_ _ _) | (with_reducible refine Up.setCell ?_ ?_ _) | (with_reducible refine Up.drewN ?_ _) | (with_reducible refine Up.drew ?_)));all_goals (first | (simp;done) | (simp;omega) | omega)))
  clear hu5 c4_0 c4_1 c4_2 c4_3 c4_4 c4_5
  go_wp2_with fail
  go_ret
  exact ⟨by (rw [HR.out];first | done | rfl | (simp only [*];first | done | rfl)),HU5.out⟩

end Go.Proofs.YtafkoddgefcpnaaGreat

namespace Go.Proofs.YtafkoddgefcpnaaGreat
open Go.RowKit

set_option maxHeartbeats 4000000 in
set_option maxRecDepth 100000 in
theorem bholds_up (n1 d1 n2 d2 n3 d3 n d:Int) (in1:In n1) (id1:In d1) (in2:In n2) (id2:In d2) (in3:In n3) (id3:In d3) (in_n:In n) (id_d:In d) (w:World) :
    Calls Tryz.prog 23 #[.agg #[.int .i64 n1,.int .i64 d1,.int .i64 n2,.int .i64 d2,.int .i64 n3,.int .i64 d3],.agg #[.int .i64 n,.int .i64 d]] w fun e w'=>e=.returned (.bool (hoB n1 d1 n2 d2 n3 d3 n d))∧Up w w':=by
  have H1:=Lib.hid (fun W=>bvalid_up n1 d1 n2 d2 n3 d3 in1 id1 in2 id2 in3 id3 W)
  have H2:=Lib.hid (fun W=>valid_up n d in_n id_d W)
  have H3:=Lib.hid (fun W=>comparer_up n1 d1 n d in1 id1 in_n id_d W)
  have H4:=Lib.hid (fun W=>comparer_up n d n3 d3 in_n id_d in3 id3 W)
  have HR:=Lib.hid (show hoB n1 d1 n2 d2 n3 d3 n d=(bvB n1 d1 n2 d2 n3 d3 && (validB n d && (decide (cmpR n1 d1 n d≤0) && decide (cmpR n d n3 d3≤0)))) from rfl)
  generalize hoB n1 d1 n2 d2 n3 d3 n d=r at *
  generalize bvB n1 d1 n2 d2 n3 d3=p1 at *
  generalize validB n d=p2 at *
  generalize cmpR n1 d1 n d=x at *
  generalize cmpR n d n3 d3=y at *
  clear in1 id1 in2 id2 in3 id3 in_n id_d
  cases p1
  case false =>
    go_enter Tryz.func23,Tryz.ntmps23
    go_wp2_with fail
    refine (H1.out _).mono ?_
    rintro e w1 ⟨rfl,hu1⟩
    try unfold got2
    have c1_0:=hu1.keep (w.heap.size) (0) (.int .i64 n1) (by simp [go_sem, *])
    have c1_1:=hu1.keep (w.heap.size) (1) (.int .i64 d1) (by simp [go_sem, *])
    have c1_2:=hu1.keep (w.heap.size) (2) (.int .i64 n2) (by simp [go_sem, *])
    have c1_3:=hu1.keep (w.heap.size) (3) (.int .i64 d2) (by simp [go_sem, *])
    have c1_4:=hu1.keep (w.heap.size) (4) (.int .i64 n3) (by simp [go_sem, *])
    have c1_5:=hu1.keep (w.heap.size) (5) (.int .i64 d3) (by simp [go_sem, *])
    have c1_6:=hu1.keep (w.heap.size+1) (0) (.int .i64 n) (by simp [go_sem, *])
    have c1_7:=hu1.keep (w.heap.size+1) (1) (.int .i64 d) (by simp [go_sem, *])
    have l1_0:w.heap.size<w1.heap.size:=World.block_lt_of_cell? _ _ c1_0
    have m1_0:w.heap.size<w1.heap.size+1:=by omega
    have n1_0:w.heap.size<w1.heap.size+1+1:=by omega
    have x1_0:¬ w1.heap.size=w.heap.size:=by omega
    have y1_0:¬ w1.heap.size+1=w.heap.size:=by omega
    have l1_1:w.heap.size+1<w1.heap.size:=World.block_lt_of_cell? _ _ c1_6
    have m1_1:w.heap.size+1<w1.heap.size+1:=by omega
    have n1_1:w.heap.size+1<w1.heap.size+1+1:=by omega
    have x1_1:¬ w1.heap.size=w.heap.size+1:=by omega
    have y1_1:¬ w1.heap.size+1=w.heap.size+1:=by omega
    have HU1:Hid (Up w w1):=Lib.hid (by ((repeat (first | (with_reducible exact Up.refl _) | (with_reducible refine Up.trans ?_ hu1) | (with_reducible refine Up.alloc ?_ _ _) | (with_reducible refine Up.setCell ?_ ?_ _) | (with_reducible refine Up.drewN ?_ _) | (with_reducible refine Up.drew ?_)));all_goals (first | (simp;done) | (simp;omega) | omega)))
    clear hu1
    go_wp2_with fail
    go_ret
    exact ⟨by (rw [HR.out];first | done | rfl | (simp only [*];first | done | rfl)),HU1.out⟩
  cases p2
  case false =>
    go_enter Tryz.func23,Tryz.ntmps23
    go_wp2_with fail
    refine (H1.out _).mono ?_
    rintro e w1 ⟨rfl,hu1⟩
    try unfold got2
    have c1_0:=hu1.keep (w.heap.size) (0) (.int .i64 n1) (by simp [go_sem, *])
    have c1_1:=hu1.keep (w.heap.size) (1) (.int .i64 d1) (by simp [go_sem, *])
    have c1_2:=hu1.keep (w.heap.size) (2) (.int .i64 n2) (by simp [go_sem, *])
    have c1_3:=hu1.keep (w.heap.size) (3) (.int .i64 d2) (by simp [go_sem, *])
    have c1_4:=hu1.keep (w.heap.size) (4) (.int .i64 n3) (by simp [go_sem, *])
    have c1_5:=hu1.keep (w.heap.size) (5) (.int .i64 d3) (by simp [go_sem, *])
    have c1_6:=hu1.keep (w.heap.size+1) (0) (.int .i64 n) (by simp [go_sem, *])
    have c1_7:=hu1.keep (w.heap.size+1) (1) (.int .i64 d) (by simp [go_sem, *])
    have l1_0:w.heap.size<w1.heap.size:=World.block_lt_of_cell? _ _ c1_0
    have m1_0:w.heap.size<w1.heap.size+1:=by omega
    have n1_0:w.heap.size<w1.heap.size+1+1:=by omega
    have x1_0:¬ w1.heap.size=w.heap.size:=by omega
    have y1_0:¬ w1.heap.size+1=w.heap.size:=by omega
    have l1_1:w.heap.size+1<w1.heap.size:=World.block_lt_of_cell? _ _ c1_6
    have m1_1:w.heap.size+1<w1.heap.size+1:=by omega
    have n1_1:w.heap.size+1<w1.heap.size+1+1:=by omega
    have x1_1:¬ w1.heap.size=w.heap.size+1:=by omega
    have y1_1:¬ w1.heap.size+1=w.heap.size+1:=by omega
    have HU1:Hid (Up w w1):=Lib.hid (by ((repeat (first | (with_reducible exact Up.refl _) | (with_reducible refine Up.trans ?_ hu1) | (with_reducible refine Up.alloc ?_ _ _) | (with_reducible refine Up.setCell ?_ ?_ _) | (with_reducible refine Up.drewN ?_ _) | (with_reducible refine Up.drew ?_)));all_goals (first | (simp;done) | (simp;omega) | omega)))
    clear hu1
    go_wp2_with fail
    refine (H2.out _).mono ?_
    rintro e w2 ⟨rfl,hu2⟩
    try unfold got2
    have c2_0:=hu2.keep (w.heap.size) (0) (.int .i64 n1) (by simp [go_sem, *])
    have c2_1:=hu2.keep (w.heap.size) (1) (.int .i64 d1) (by simp [go_sem, *])
    have c2_2:=hu2.keep (w.heap.size) (2) (.int .i64 n2) (by simp [go_sem, *])
    have c2_3:=hu2.keep (w.heap.size) (3) (.int .i64 d2) (by simp [go_sem, *])
    have c2_4:=hu2.keep (w.heap.size) (4) (.int .i64 n3) (by simp [go_sem, *])
    have c2_5:=hu2.keep (w.heap.size) (5) (.int .i64 d3) (by simp [go_sem, *])
    have c2_6:=hu2.keep (w.heap.size+1) (0) (.int .i64 n) (by simp [go_sem, *])
    have c2_7:=hu2.keep (w.heap.size+1) (1) (.int .i64 d) (by simp [go_sem, *])
    have l2_0:w.heap.size<w2.heap.size:=World.block_lt_of_cell? _ _ c2_0
    have m2_0:w.heap.size<w2.heap.size+1:=by omega
    have n2_0:w.heap.size<w2.heap.size+1+1:=by omega
    have x2_0:¬ w2.heap.size=w.heap.size:=by omega
    have y2_0:¬ w2.heap.size+1=w.heap.size:=by omega
    have l2_1:w.heap.size+1<w2.heap.size:=World.block_lt_of_cell? _ _ c2_6
    have m2_1:w.heap.size+1<w2.heap.size+1:=by omega
    have n2_1:w.heap.size+1<w2.heap.size+1+1:=by omega
    have x2_1:¬ w2.heap.size=w.heap.size+1:=by omega
    have y2_1:¬ w2.heap.size+1=w.heap.size+1:=by omega
    have HU2:Hid (Up w w2):=Lib.hid (by ((repeat (first | (with_reducible exact Up.refl _) | (with_reducible exact HU1.out) | (with_reducible refine Up.trans ?_ hu2) | (with_reducible refine Up.alloc ?_ _ _) | (with_reducible refine Up.setCell ?_ ?_ _) | (with_reducible refine Up.drewN ?_ _) | (with_reducible refine Up.drew ?_)));all_goals (first | (simp;done) | (simp;omega) | omega)))
    clear hu2 c1_0 c1_1 c1_2 c1_3 c1_4 c1_5 c1_6 c1_7
    go_wp2_with fail
    go_ret
    exact ⟨by (rw [HR.out];first | done | rfl | (simp only [*];first | done | rfl)),HU2.out⟩
  by_cases hx:x≤0
  case neg =>
    have t:decide (x≤0)=false:=decide_eq_false hx
    clear hx
    go_enter Tryz.func23,Tryz.ntmps23
    go_wp2_with fail
    refine (H1.out _).mono ?_
    rintro e w1 ⟨rfl,hu1⟩
    try unfold got2
    have c1_0:=hu1.keep (w.heap.size) (0) (.int .i64 n1) (by simp [go_sem, *])
    have c1_1:=hu1.keep (w.heap.size) (1) (.int .i64 d1) (by simp [go_sem, *])
    have c1_2:=hu1.keep (w.heap.size) (2) (.int .i64 n2) (by simp [go_sem, *])
    have c1_3:=hu1.keep (w.heap.size) (3) (.int .i64 d2) (by simp [go_sem, *])
    have c1_4:=hu1.keep (w.heap.size) (4) (.int .i64 n3) (by simp [go_sem, *])
    have c1_5:=hu1.keep (w.heap.size) (5) (.int .i64 d3) (by simp [go_sem, *])
    have c1_6:=hu1.keep (w.heap.size+1) (0) (.int .i64 n) (by simp [go_sem, *])
    have c1_7:=hu1.keep (w.heap.size+1) (1) (.int .i64 d) (by simp [go_sem, *])
    have l1_0:w.heap.size<w1.heap.size:=World.block_lt_of_cell? _ _ c1_0
    have m1_0:w.heap.size<w1.heap.size+1:=by omega
    have n1_0:w.heap.size<w1.heap.size+1+1:=by omega
    have x1_0:¬ w1.heap.size=w.heap.size:=by omega
    have y1_0:¬ w1.heap.size+1=w.heap.size:=by omega
    have l1_1:w.heap.size+1<w1.heap.size:=World.block_lt_of_cell? _ _ c1_6
    have m1_1:w.heap.size+1<w1.heap.size+1:=by omega
    have n1_1:w.heap.size+1<w1.heap.size+1+1:=by omega
    have x1_1:¬ w1.heap.size=w.heap.size+1:=by omega
    have y1_1:¬ w1.heap.size+1=w.heap.size+1:=by omega
    have HU1:Hid (Up w w1):=Lib.hid (by ((repeat (first | (with_reducible exact Up.refl _) | (with_reducible refine Up.trans ?_ hu1) | (with_reducible refine Up.alloc ?_ _ _) | (with_reducible refine Up.setCell ?_ ?_ _) | (with_reducible refine Up.drewN ?_ _) | (with_reducible refine Up.drew ?_)));all_goals (first | (simp;done) | (simp;omega) | omega)))
    clear hu1
    go_wp2_with fail
    refine (H2.out _).mono ?_
    rintro e w2 ⟨rfl,hu2⟩
    try unfold got2
    have c2_0:=hu2.keep (w.heap.size) (0) (.int .i64 n1) (by simp [go_sem, *])
    have c2_1:=hu2.keep (w.heap.size) (1) (.int .i64 d1) (by simp [go_sem, *])
    have c2_2:=hu2.keep (w.heap.size) (2) (.int .i64 n2) (by simp [go_sem, *])
    have c2_3:=hu2.keep (w.heap.size) (3) (.int .i64 d2) (by simp [go_sem, *])
    have c2_4:=hu2.keep (w.heap.size) (4) (.int .i64 n3) (by simp [go_sem, *])
    have c2_5:=hu2.keep (w.heap.size) (5) (.int .i64 d3) (by simp [go_sem, *])
    have c2_6:=hu2.keep (w.heap.size+1) (0) (.int .i64 n) (by simp [go_sem, *])
    have c2_7:=hu2.keep (w.heap.size+1) (1) (.int .i64 d) (by simp [go_sem, *])
    have l2_0:w.heap.size<w2.heap.size:=World.block_lt_of_cell? _ _ c2_0
    have m2_0:w.heap.size<w2.heap.size+1:=by omega
    have n2_0:w.heap.size<w2.heap.size+1+1:=by omega
    have x2_0:¬ w2.heap.size=w.heap.size:=by omega
    have y2_0:¬ w2.heap.size+1=w.heap.size:=by omega
    have l2_1:w.heap.size+1<w2.heap.size:=World.block_lt_of_cell? _ _ c2_6
    have m2_1:w.heap.size+1<w2.heap.size+1:=by omega
    have n2_1:w.heap.size+1<w2.heap.size+1+1:=by omega
    have x2_1:¬ w2.heap.size=w.heap.size+1:=by omega
    have y2_1:¬ w2.heap.size+1=w.heap.size+1:=by omega
    have HU2:Hid (Up w w2):=Lib.hid (by ((repeat (first | (with_reducible exact Up.refl _) | (with_reducible exact HU1.out) | (with_reducible refine Up.trans ?_ hu2) | (with_reducible refine Up.alloc ?_ _ _) | (with_reducible refine Up.setCell ?_ ?_ _) | (with_reducible refine Up.drewN ?_ _) | (with_reducible refine Up.drew ?_)));all_goals (first | (simp;done) | (simp;omega) | omega)))
    clear hu2 c1_0 c1_1 c1_2 c1_3 c1_4 c1_5 c1_6 c1_7
    go_wp2_with fail
    refine (H3.out _).mono ?_
    rintro e w3 ⟨rfl,hu3⟩
    try unfold got2
    have c3_0:=hu3.keep (w.heap.size) (0) (.int .i64 n1) (by simp [go_sem, *])
    have c3_1:=hu3.keep (w.heap.size) (1) (.int .i64 d1) (by simp [go_sem, *])
    have c3_2:=hu3.keep (w.heap.size) (2) (.int .i64 n2) (by simp [go_sem, *])
    have c3_3:=hu3.keep (w.heap.size) (3) (.int .i64 d2) (by simp [go_sem, *])
    have c3_4:=hu3.keep (w.heap.size) (4) (.int .i64 n3) (by simp [go_sem, *])
    have c3_5:=hu3.keep (w.heap.size) (5) (.int .i64 d3) (by simp [go_sem, *])
    have c3_6:=hu3.keep (w.heap.size+1) (0) (.int .i64 n) (by simp [go_sem, *])
    have c3_7:=hu3.keep (w.heap.size+1) (1) (.int .i64 d) (by simp [go_sem, *])
    have l3_0:w.heap.size<w3.heap.size:=World.block_lt_of_cell? _ _ c3_0
    have m3_0:w.heap.size<w3.heap.size+1:=by omega
    have n3_0:w.heap.size<w3.heap.size+1+1:=by omega
    have x3_0:¬ w3.heap.size=w.heap.size:=by omega
    have y3_0:¬ w3.heap.size+1=w.heap.size:=by omega
    have l3_1:w.heap.size+1<w3.heap.size:=World.block_lt_of_cell? _ _ c3_6
    have m3_1:w.heap.size+1<w3.heap.size+1:=by omega
    have n3_1:w.heap.size+1<w3.heap.size+1+1:=by omega
    have x3_1:¬ w3.heap.size=w.heap.size+1:=by omega
    have y3_1:¬ w3.heap.size+1=w.heap.size+1:=by omega
    have HU3:Hid (Up w w3):=Lib.hid (by ((repeat (first | (with_reducible exact Up.refl _) | (with_reducible exact HU2.out) | (with_reducible refine Up.trans ?_ hu3) | (with_reducible refine Up.alloc ?_ _ _) | (with_reducible refine Up.setCell ?_ ?_ _) | (with_reducible refine Up.drewN ?_ _) | (with_reducible refine Up.drew ?_)));all_goals (first | (simp;done) | (simp;omega) | omega)))
    clear hu3 c2_0 c2_1 c2_2 c2_3 c2_4 c2_5 c2_6 c2_7
    go_wp2_with fail
    go_ret
    exact ⟨by (rw [HR.out];first | done | rfl | (simp only [*];first | done | rfl)),HU3.out⟩
  have t:decide (x≤0)=true:=decide_eq_true hx
  clear hx
  go_enter Tryz.func23,Tryz.ntmps23
  go_wp2_with fail
  refine (H1.out _).mono ?_
  rintro e w1 ⟨rfl,hu1⟩
  try unfold got2
  have c1_0:=hu1.keep (w.heap.size) (0) (.int .i64 n1) (by simp [go_sem, *])
  have c1_1:=hu1.keep (w.heap.size) (1) (.int .i64 d1) (by simp [go_sem, *])
  have c1_2:=hu1.keep (w.heap.size) (2) (.int .i64 n2) (by simp [go_sem, *])
  have c1_3:=hu1.keep (w.heap.size) (3) (.int .i64 d2) (by simp [go_sem, *])
  have c1_4:=hu1.keep (w.heap.size) (4) (.int .i64 n3) (by simp [go_sem, *])
  have c1_5:=hu1.keep (w.heap.size) (5) (.int .i64 d3) (by simp [go_sem, *])
  have c1_6:=hu1.keep (w.heap.size+1) (0) (.int .i64 n) (by simp [go_sem, *])
  have c1_7:=hu1.keep (w.heap.size+1) (1) (.int .i64 d) (by simp [go_sem, *])
  have l1_0:w.heap.size<w1.heap.size:=World.block_lt_of_cell? _ _ c1_0
  have m1_0:w.heap.size<w1.heap.size+1:=by omega
  have n1_0:w.heap.size<w1.heap.size+1+1:=by omega
  have x1_0:¬ w1.heap.size=w.heap.size:=by omega
  have y1_0:¬ w1.heap.size+1=w.heap.size:=by omega
  have l1_1:w.heap.size+1<w1.heap.size:=World.block_lt_of_cell? _ _ c1_6
  have m1_1:w.heap.size+1<w1.heap.size+1:=by omega
  have n1_1:w.heap.size+1<w1.heap.size+1+1:=by omega
  have x1_1:¬ w1.heap.size=w.heap.size+1:=by omega
  have y1_1:¬ w1.heap.size+1=w.heap.size+1:=by omega
  have HU1:Hid (Up w w1):=Lib.hid (by ((repeat (first | (with_reducible exact Up.refl _) | (with_reducible refine Up.trans ?_ hu1) | (with_reducible refine Up.alloc ?_ _ _) | (with_reducible refine Up.setCell ?_ ?_ _) | (with_reducible refine Up.drewN ?_ _) | (with_reducible refine Up.drew ?_)));all_goals (first | (simp;done) | (simp;omega) | omega)))
  clear hu1
  go_wp2_with fail
  refine (H2.out _).mono ?_
  rintro e w2 ⟨rfl,hu2⟩
  try unfold got2
  have c2_0:=hu2.keep (w.heap.size) (0) (.int .i64 n1) (by simp [go_sem, *])
  have c2_1:=hu2.keep (w.heap.size) (1) (.int .i64 d1) (by simp [go_sem, *])
  have c2_2:=hu2.keep (w.heap.size) (2) (.int .i64 n2) (by simp [go_sem, *])
  have c2_3:=hu2.keep (w.heap.size) (3) (.int .i64 d2) (by simp [go_sem, *])
  have c2_4:=hu2.keep (w.heap.size) (4) (.int .i64 n3) (by simp [go_sem, *])
  have c2_5:=hu2.keep (w.heap.size) (5) (.int .i64 d3) (by simp [go_sem, *])
  have c2_6:=hu2.keep (w.heap.size+1) (0) (.int .i64 n) (by simp [go_sem, *])
  have c2_7:=hu2.keep (w.heap.size+1) (1) (.int .i64 d) (by simp [go_sem, *])
  have l2_0:w.heap.size<w2.heap.size:=World.block_lt_of_cell? _ _ c2_0
  have m2_0:w.heap.size<w2.heap.size+1:=by omega
  have n2_0:w.heap.size<w2.heap.size+1+1:=by omega
  have x2_0:¬ w2.heap.size=w.heap.size:=by omega
  have y2_0:¬ w2.heap.size+1=w.heap.size:=by omega
  have l2_1:w.heap.size+1<w2.heap.size:=World.block_lt_of_cell? _ _ c2_6
  have m2_1:w.heap.size+1<w2.heap.size+1:=by omega
  have n2_1:w.heap.size+1<w2.heap.size+1+1:=by omega
  have x2_1:¬ w2.heap.size=w.heap.size+1:=by omega
  have y2_1:¬ w2.heap.size+1=w.heap.size+1:=by omega
  have HU2:Hid (Up w w2):=Lib.hid (by ((repeat (first | (with_reducible exact Up.refl _) | (with_reducible exact HU1.out) | (with_reducible refine Up.trans ?_ hu2) | (with_reducible refine Up.alloc ?_ _ _) | (with_reducible refine Up.setCell ?_ ?_ _) | (with_reducible refine Up.drewN ?_ _) | (with_reducible refine Up.drew ?_)));all_goals (first | (simp;done) | (simp;omega) | omega)))
  clear hu2 c1_0 c1_1 c1_2 c1_3 c1_4 c1_5 c1_6 c1_7
  go_wp2_with fail
  refine (H3.out _).mono ?_
  rintro e w3 ⟨rfl,hu3⟩
  try unfold got2
  have c3_0:=hu3.keep (w.heap.size) (0) (.int .i64 n1) (by simp [go_sem, *])
  have c3_1:=hu3.keep (w.heap.size) (1) (.int .i64 d1) (by simp [go_sem, *])
  have c3_2:=hu3.keep (w.heap.size) (2) (.int .i64 n2) (by simp [go_sem, *])
  have c3_3:=hu3.keep (w.heap.size) (3) (.int .i64 d2) (by simp [go_sem, *])
  have c3_4:=hu3.keep (w.heap.size) (4) (.int .i64 n3) (by simp [go_sem, *])
  have c3_5:=hu3.keep (w.heap.size) (5) (.int .i64 d3) (by simp [go_sem, *])
  have c3_6:=hu3.keep (w.heap.size+1) (0) (.int .i64 n) (by simp [go_sem, *])
  have c3_7:=hu3.keep (w.heap.size+1) (1) (.int .i64 d) (by simp [go_sem, *])
  have l3_0:w.heap.size<w3.heap.size:=World.block_lt_of_cell? _ _ c3_0
  have m3_0:w.heap.size<w3.heap.size+1:=by omega
  have n3_0:w.heap.size<w3.heap.size+1+1:=by omega
  have x3_0:¬ w3.heap.size=w.heap.size:=by omega
  have y3_0:¬ w3.heap.size+1=w.heap.size:=by omega
  have l3_1:w.heap.size+1<w3.heap.size:=World.block_lt_of_cell? _ _ c3_6
  have m3_1:w.heap.size+1<w3.heap.size+1:=by omega
  have n3_1:w.heap.size+1<w3.heap.size+1+1:=by omega
  have x3_1:¬ w3.heap.size=w.heap.size+1:=by omega
  have y3_1:¬ w3.heap.size+1=w.heap.size+1:=by omega
  have HU3:Hid (Up w w3):=Lib.hid (by ((repeat (first | (with_reducible exact Up.refl _) | (with_reducible exact HU2.out) | (with_reducible refine Up.trans ?_ hu3) | (with_reducible refine Up.alloc ?_ _ _) | (with_reducible refine Up.setCell ?_ ?_ _) | (with_reducible refine Up.drewN ?_ _) | (with_reducible refine Up.drew ?_)));all_goals (first | (simp;done) | (simp;omega) | omega)))
  clear hu3 c2_0 c2_1 c2_2 c2_3 c2_4 c2_5 c2_6 c2_7
  go_wp2_with fail
  refine (H4.out _).mono ?_
  rintro e w4 ⟨rfl,hu4⟩
  try unfold got2
  have c4_0:=hu4.keep (w.heap.size) (0) (.int .i64 n1) (by simp [go_sem, *])
  have c4_1:=hu4.keep (w.heap.size) (1) (.int .i64 d1) (by simp [go_sem, *])
  have c4_2:=hu4.keep (w.heap.size) (2) (.int .i64 n2) (by simp [go_sem, *])
  have c4_3:=hu4.keep (w.heap.size) (3) (.int .i64 d2) (by simp [go_sem, *])
  have c4_4:=hu4.keep (w.heap.size) (4) (.int .i64 n3) (by simp [go_sem, *])
  have c4_5:=hu4.keep (w.heap.size) (5) (.int .i64 d3) (by simp [go_sem, *])
  have c4_6:=hu4.keep (w.heap.size+1) (0) (.int .i64 n) (by simp [go_sem, *])
  have c4_7:=hu4.keep (w.heap.size+1) (1) (.int .i64 d) (by simp [go_sem, *])
  have l4_0:w.heap.size<w4.heap.size:=World.block_lt_of_cell? _ _ c4_0
  have m4_0:w.heap.size<w4.heap.size+1:=by omega
  have n4_0:w.heap.size<w4.heap.size+1+1:=by omega
  have x4_0:¬ w4.heap.size=w.heap.size:=by omega
  have y4_0:¬ w4.heap.size+1=w.heap.size:=by omega
  have l4_1:w.heap.size+1<w4.heap.size:=World.block_lt_of_cell? _ _ c4_6
  have m4_1:w.heap.size+1<w4.heap.size+1:=by omega
  have n4_1:w.heap.size+1<w4.heap.size+1+1:=by omega
  have x4_1:¬ w4.heap.size=w.heap.size+1:=by omega
  have y4_1:¬ w4.heap.size+1=w.heap.size+1:=by omega
  have HU4:Hid (Up w w4):=Lib.hid (by ((repeat (first | (with_reducible exact Up.refl _) | (with_reducible exact HU3.out) | (with_reducible refine Up.trans ?_ hu4) | (with_reducible refine Up.alloc ?_ _ _) | (with_reducible refine Up.setCell ?_ ?_ _) | (with_reducible refine Up.drewN ?_ _) | (with_reducible refine Up.drew ?_)));all_goals (first | (simp;done) | (simp;omega) | omega)))
  clear hu4 c3_0 c3_1 c3_2 c3_3 c3_4 c3_5 c3_6 c3_7
  go_wp2_with fail
  go_ret
  exact ⟨by (rw [HR.out];first | done | rfl | (simp only [*];first | done | rfl)),HU4.out⟩

end Go.Proofs.YtafkoddgefcpnaaGreat
