/- Texts of these claims, one after the other. -/
import Derived.Test.YtafkoddgefcpnaaGreatRows
import Derived.Test.YtafkoddgefcpnaaGreatZRRedq128
import Derived.Test.YtafkoddgefcpnaaGreatZRValidq124
namespace Go.Proofs.YtafkoddgefcpnaaGreat
open Go.RowKit

def cmpR (n d m c:Int):Int:=if (validB n d && validB m c)=true then crossZ n c m d else 0

theorem comparer_up (n d m c:Int) (hn:In n) (hd:In d) (hm:In m) (hc:In c) (w:World) :
    Calls Tryz.prog 55 #[.agg #[.int .i64 n,.int .i64 d],.agg #[.int .i64 m,.int .i64 c]] w fun e w'=>e=.returned (.int .i64 (cmpR n d m c))∧Up w w':=by
  have HV:=Lib.hid (fun W=>bothValid_up n d m c hn hd hm hc W)
  have HC:=Lib.hid (fun W=>cross_up n c m d hn hc hm hd W)
  have HR:=Lib.hid (show cmpR n d m c=if (validB n d && validB m c)=true then crossZ n c m d else 0 from rfl)
  generalize cmpR n d m c=r at *
  generalize crossZ n c m d=q at *
  generalize (validB n d && validB m c)=v at *
  clear hn hd hm hc
  cases v
  · go_enter Tryz.func55,Tryz.ntmps55
    go_wp2_with fail
    refine (HV.out _).mono ?_
    rintro e w1 ⟨rfl,hu1⟩
    try unfold got2
    have c1_0:=hu1.keep (w.heap.size) (0) (.int .i64 n) (by simp [go_sem, *])
    have c1_1:=hu1.keep (w.heap.size) (1) (.int .i64 d) (by simp [go_sem, *])
    have c1_2:=hu1.keep (w.heap.size+1) (0) (.int .i64 m) (by simp [go_sem, *])
    have c1_3:=hu1.keep (w.heap.size+1) (1) (.int .i64 c) (by simp [go_sem, *])
    have l1_0:w.heap.size<w1.heap.size:=World.block_lt_of_cell? _ _ c1_0
    have m1_0:w.heap.size<w1.heap.size+1:=by omega
    have n1_0:w.heap.size<w1.heap.size+1+1:=by omega
    have x1_0:¬ w1.heap.size=w.heap.size:=by omega
    have y1_0:¬ w1.heap.size+1=w.heap.size:=by omega
    have l1_1:w.heap.size+1<w1.heap.size:=World.block_lt_of_cell? _ _ c1_2
    have m1_1:w.heap.size+1<w1.heap.size+1:=by omega
    have n1_1:w.heap.size+1<w1.heap.size+1+1:=by omega
    have x1_1:¬ w1.heap.size=w.heap.size+1:=by omega
    have y1_1:¬ w1.heap.size+1=w.heap.size+1:=by omega
    have HU1:Hid (Up w w1):=Lib.hid (by ((repeat (first | (with_reducible exact Up.refl _) | (with_reducible refine Up.trans ?_ hu1) | (with_reducible refine Up.alloc ?_ _ _) | (with_reducible refine Up.setCell ?_ ?_ _) | (with_reducible refine Up.drewN ?_ _) | (with_reducible refine Up.drew ?_)));all_goals (first | (simp;done) | (simp;omega) | omega)))
    clear hu1
    go_wp2_with fail
    go_ret
    exact ⟨by rw [HR.out];rfl,HU1.out⟩
  · go_enter Tryz.func55,Tryz.ntmps55
    go_wp2_with fail
    refine (HV.out _).mono ?_
    rintro e w1 ⟨rfl,hu1⟩
    try unfold got2
    have c1_0:=hu1.keep (w.heap.size) (0) (.int .i64 n) (by simp [go_sem, *])
    have c1_1:=hu1.keep (w.heap.size) (1) (.int .i64 d) (by simp [go_sem, *])
    have c1_2:=hu1.keep (w.heap.size+1) (0) (.int .i64 m) (by simp [go_sem, *])
    have c1_3:=hu1.keep (w.heap.size+1) (1) (.int .i64 c) (by simp [go_sem, *])
    have l1_0:w.heap.size<w1.heap.size:=World.block_lt_of_cell? _ _ c1_0
    have m1_0:w.heap.size<w1.heap.size+1:=by omega
    have n1_0:w.heap.size<w1.heap.size+1+1:=by omega
    have x1_0:¬ w1.heap.size=w.heap.size:=by omega
    have y1_0:¬ w1.heap.size+1=w.heap.size:=by omega
    have l1_1:w.heap.size+1<w1.heap.size:=World.block_lt_of_cell? _ _ c1_2
    have m1_1:w.heap.size+1<w1.heap.size+1:=by omega
    have n1_1:w.heap.size+1<w1.heap.size+1+1:=by omega
    have x1_1:¬ w1.heap.size=w.heap.size+1:=by omega
    have y1_1:¬ w1.heap.size+1=w.heap.size+1:=by omega
    have HU1:Hid (Up w w1):=Lib.hid (by ((repeat (first | (with_reducible exact Up.refl _) | (with_reducible refine Up.trans ?_ hu1) | (with_reducible refine Up.alloc ?_ _ _) | (with_reducible refine Up.setCell ?_ ?_ _) | (with_reducible refine Up.drewN ?_ _) | (with_reducible refine Up.drew ?_)));all_goals (first | (simp;done) | (simp;omega) | omega)))
    clear hu1
    go_wp2_with fail
    refine (HC.out _).mono ?_
    rintro e w2 ⟨rfl,hu2⟩
    try unfold got2
    have HU2:Hid (Up w w2):=Lib.hid (by ((repeat (first | (with_reducible exact Up.refl _) | (with_reducible exact HU1.out) | (with_reducible refine Up.trans ?_ hu2) | (with_reducible refine Up.alloc ?_ _ _) | (with_reducible refine Up.setCell ?_ ?_ _) | (with_reducible refine Up.drewN ?_ _) | (with_reducible refine Up.drew ?_)));all_goals (first | (simp;done) | (simp;omega) | omega)))
    clear hu2 c1_0 c1_1 c1_2 c1_3
    go_wp2_with fail
    go_ret
    exact ⟨by rw [HR.out];rfl,HU2.out⟩

end Go.Proofs.YtafkoddgefcpnaaGreat

namespace Go.Proofs.YtafkoddgefcpnaaGreat

theorem cmpZ_le {x y:Int}:cmpZ x y≤0 ↔ x≤y:=by unfold cmpZ;(repeat' split) <;> omega

end Go.Proofs.YtafkoddgefcpnaaGreat
