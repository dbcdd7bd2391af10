/- What bothValid, Exact, greater and lesser of package bounds return, and the reference's Exact. -/
import Derived.Test.YtafkoddgefcpnaaGreatRows
import Derived.Test.YtafkoddgefcpnaaGreatZRMakeq136
namespace Go.Proofs.YtafkoddgefcpnaaGreat
open Go.RowKit

set_option maxHeartbeats 4000000 in
set_option maxRecDepth 100000 in
theorem rbexact_up (n d:Int) (hn:In n) (hd:In d) (w:World) :
    Calls Tryz.prog 41 #[.agg #[.int .i64 n,.int .i64 d]] w fun e w'=>e=.returned (.agg #[.int .i64 (oz (validB n d) n),.int .i64 (oz (validB n d) d),.int .i64 (oz (validB n d) n),.int .i64 (oz (validB n d) d),.int .i64 (oz (validB n d) n),.int .i64 (oz (validB n d) d)])∧Up w w':=by
  have H1:=Lib.hid (fun W=>rvalid_up n d hn hd W)
  generalize validB n d=p at *
  clear hn hd
  cases p
  case false =>
    rw [oz_no,oz_no]
    go_enter Tryz.func41,Tryz.ntmps41
    go_wp2_with fail
    refine (H1.out _).mono ?_
    rintro e w1 ⟨rfl,hu1⟩
    try unfold got2
    have c1_0:=hu1.keep (w.heap.size) (0) (.int .i64 n) (by simp [go_sem, *])
    have c1_1:=hu1.keep (w.heap.size) (1) (.int .i64 d) (by simp [go_sem, *])
    have c1_2:=hu1.keep (w.heap.size+1) (0) (.int .i64 0) (by simp [go_sem, *])
    have c1_3:=hu1.keep (w.heap.size+1) (1) (.int .i64 0) (by simp [go_sem, *])
    have c1_4:=hu1.keep (w.heap.size+1) (2) (.int .i64 0) (by simp [go_sem, *])
    have c1_5:=hu1.keep (w.heap.size+1) (3) (.int .i64 0) (by simp [go_sem, *])
    have c1_6:=hu1.keep (w.heap.size+1) (4) (.int .i64 0) (by simp [go_sem, *])
    have c1_7:=hu1.keep (w.heap.size+1) (5) (.int .i64 0) (by simp [go_sem, *])
    have l1_0:w.heap.size<w1.heap.size:=World.block_lt_of_cell? _ _ c1_0
    have m1_0:w.heap.size<w1.heap.size+1:=by omega
    have n1_0:w.heap.size<w1.heap.size+1+1:=by omega
    have x1_0:¬ w1.heap.size=w.heap.size:=by omega
    have y1_0:¬ w1.heap.size+1=w.heap.size:=by omega
    have l1_1:w.heap.size+1<w1.heap.size:=World.block_lt_of_cell? _ _ c1_2
    have m1_1:w.heap.size+1<w1.heap.size+1:=by omega
    have n1_1:w.heap.size+1<w1.heap.size+1+1:=by omega
    have x1_1:¬ w1.heap.size=w.heap.size+1:=by omega
    have y1_1:¬ w1.heap.size+1=w.heap.size+1:=by omega
    have HU1:Hid (Up w w1):=Lib.hid (by ((repeat (first | (with_reducible exact Up.refl _) | (with_reducible refine Up.trans ?_ hu1) | (with_reducible refine Up.alloc ?_ _ _) | (with_reducible refine Up.setCell ?_ ?_ _) | (with_reducible refine Up.drewN ?_ _) | (with_reducible refine Up.drew ?_)));all_goals (first | (simp;done) | (simp;omega) | omega)))
    clear hu1
    have z0:=own1 HU1.out 0
    have z1:=own1 HU1.out 1
    have z2:=own1 HU1.out 2
    have z3:=own1 HU1.out 3
    have z4:=own1 HU1.out 4
    have z5:=own1 HU1.out 5
    go_wp2_with fail
    refine bodyPost_ret (v:=.agg #[.int .i64 0,.int .i64 0,.int .i64 0,.int .i64 0,.int .i64 0,.int .i64 0]) (by simp [results,Tryz.results41,go_sem,c1_2,c1_3,c1_4,c1_5,c1_6,c1_7]) rfl ⟨?_,?_⟩
    · rfl
    · ((repeat (first | (with_reducible exact Up.refl _) | (with_reducible exact HU1.out) | (with_reducible refine Up.alloc ?_ _ _) | (with_reducible refine Up.setCell ?_ ?_ _) | (with_reducible refine Up.drewN ?_ _) | (with_reducible refine Up.drew ?_)));all_goals (first | (simp;done) | (simp;omega) | omega))
  rw [oz_yes,oz_yes]
  go_enter Tryz.func41,Tryz.ntmps41
  go_wp2_with fail
  refine (H1.out _).mono ?_
  rintro e w1 ⟨rfl,hu1⟩
  try unfold got2
  have c1_0:=hu1.keep (w.heap.size) (0) (.int .i64 n) (by simp [go_sem, *])
  have c1_1:=hu1.keep (w.heap.size) (1) (.int .i64 d) (by simp [go_sem, *])
  have c1_2:=hu1.keep (w.heap.size+1) (0) (.int .i64 0) (by simp [go_sem, *])
  have c1_3:=hu1.keep (w.heap.size+1) (1) (.int .i64 0) (by simp [go_sem, *])
  have c1_4:=hu1.keep (w.heap.size+1) (2) (.int .i64 0) (by simp [go_sem, *])
  have c1_5:=hu1.keep (w.heap.size+1) (3) (.int .i64 0) (by simp [go_sem, *])
  have c1_6:=hu1.keep (w.heap.size+1) (4) (.int .i64 0) (by simp [go_sem, *])
  have c1_7:=hu1.keep (w.heap.size+1) (5) (.int .i64 0) (by simp [go_sem, *])
  have l1_0:w.heap.size<w1.heap.size:=World.block_lt_of_cell? _ _ c1_0
  have m1_0:w.heap.size<w1.heap.size+1:=by omega
  have n1_0:w.heap.size<w1.heap.size+1+1:=by omega
  have x1_0:¬ w1.heap.size=w.heap.size:=by omega
  have y1_0:¬ w1.heap.size+1=w.heap.size:=by omega
  have l1_1:w.heap.size+1<w1.heap.size:=World.block_lt_of_cell? _ _ c1_2
  have m1_1:w.heap.size+1<w1.heap.size+1:=by omega
  have n1_1:w.heap.size+1<w1.heap.size+1+1:=by omega
  have x1_1:¬ w1.heap.size=w.heap.size+1:=by omega
  have y1_1:¬ w1.heap.size+1=w.heap.size+1:=by omega
  have HU1:Hid (Up w w1):=Lib.hid (by ((repeat (first | (with_reducible exact Up.refl _) | (with_reducible refine Up.trans ?_ hu1) | (with_reducible refine Up.alloc ?_ _ _) | (with_reducible refine Up.setCell ?_ ?_ _) | (with_reducible refine Up.drewN ?_ _) | (with_reducible refine Up.drew ?_)));all_goals (first | (simp;done) | (simp;omega) | omega)))
  clear hu1
  have z0:=own1 HU1.out 0
  have z1:=own1 HU1.out 1
  have z2:=own1 HU1.out 2
  have z3:=own1 HU1.out 3
  have z4:=own1 HU1.out 4
  have z5:=own1 HU1.out 5
  go_wp2_with fail
  refine bodyPost_ret (v:=.agg #[.int .i64 n,.int .i64 d,.int .i64 n,.int .i64 d,.int .i64 n,.int .i64 d]) (by simp [results,Tryz.results41,go_sem,c1_2,c1_3,c1_4,c1_5,c1_6,c1_7]) rfl ⟨?_,?_⟩
  · rfl
  · ((repeat (first | (with_reducible exact Up.refl _) | (with_reducible exact HU1.out) | (with_reducible refine Up.alloc ?_ _ _) | (with_reducible refine Up.setCell ?_ ?_ _) | (with_reducible refine Up.drewN ?_ _) | (with_reducible refine Up.drew ?_)));all_goals (first | (simp;done) | (simp;omega) | omega))

end Go.Proofs.YtafkoddgefcpnaaGreat
