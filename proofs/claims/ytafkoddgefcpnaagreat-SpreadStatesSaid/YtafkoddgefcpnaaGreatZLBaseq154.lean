/- Package spread and its reference: the spread of a mark. -/
import Derived.Test.YtafkoddgefcpnaaGreatRows
import Derived.Test.YtafkoddgefcpnaaGreatZKMcq92
import Derived.Test.YtafkoddgefcpnaaGreatZLBaseq153
namespace Go.Proofs.YtafkoddgefcpnaaGreat
open Go.RowKit
set_option linter.unusedVariables false

set_option maxHeartbeats 4000000 in
set_option maxRecDepth 100000 in
theorem rmay14_up (sq t nn s qq lo hi:Int) (w:World) :
    Calls Tryz.prog 71 #[.agg #[.int .i64 sq,.int .i64 t,.int .i64 nn,.int .i64 s,.int .i64 qq,.int .i64 lo,.int .i64 hi]] w fun e w'=>e=.returned (.bool (myM ⟨sq,t,nn,s,qq,lo,hi⟩))∧Up w w':=by
  have HB:Hid (∀ _:¬ (1≤nn∧nn≤65536∧-(nn * 4096)≤s∧s≤nn * 4096∧0≤qq∧qq≤nn * 16777216∧s * s≤nn * qq),myM ⟨sq,t,nn,s,qq,lo,hi⟩=false):=Lib.hid (fun h=>decide_eq_false h)
  have HT:Hid (1≤nn∧nn≤65536∧-(nn * 4096)≤s∧s≤nn * 4096∧0≤qq∧qq≤nn * 16777216∧s * s≤nn * qq→myM ⟨sq,t,nn,s,qq,lo,hi⟩=true):=Lib.hid (fun h=>decide_eq_true h)
  generalize myM ⟨sq,t,nn,s,qq,lo,hi⟩=r at *
  by_cases k0:¬ (1≤nn)
  · obtain rfl:r=false:=HB.out (fun h=>k0 h.1)
    have u0:nn<1:=by omega
    clear HB HT
    go_enter Tryz.func71,Tryz.ntmps71
    go_wp2
    go_ret
    exact ⟨rfl,(Up.refl w).alloc _ _⟩
  have k0:=Classical.not_not.1 k0
  have u0:¬ (nn<1):=by omega
  by_cases k1:¬ (nn≤65536)
  · obtain rfl:r=false:=HB.out (fun h=>k1 h.2.1)
    have u1:65536<nn:=by omega
    clear HB HT
    go_enter Tryz.func71,Tryz.ntmps71
    go_wp2
    go_ret
    exact ⟨rfl,(Up.refl w).alloc _ _⟩
  have k1:=Classical.not_not.1 k1
  have u1:¬ (65536<nn):=by omega
  by_cases k2:¬ (-(nn * 4096)≤s)
  · obtain rfl:r=false:=HB.out (fun h=>k2 h.2.2.1)
    have u2:s < -nn * 4096:=by omega
    clear HB HT
    go_enter Tryz.func71,Tryz.ntmps71
    go_wp2
    go_ret
    exact ⟨rfl,(Up.refl w).alloc _ _⟩
  have k2:=Classical.not_not.1 k2
  have u2:¬ (s < -nn * 4096):=by omega
  by_cases k3:¬ (s≤nn * 4096)
  · obtain rfl:r=false:=HB.out (fun h=>k3 h.2.2.2.1)
    have u3:nn * 4096<s:=by omega
    clear HB HT
    go_enter Tryz.func71,Tryz.ntmps71
    go_wp2
    go_ret
    exact ⟨rfl,(Up.refl w).alloc _ _⟩
  have k3:=Classical.not_not.1 k3
  have u3:¬ (nn * 4096<s):=by omega
  by_cases k4:¬ (0≤qq)
  · obtain rfl:r=false:=HB.out (fun h=>k4 h.2.2.2.2.1)
    have u4:qq<0:=by omega
    clear HB HT
    go_enter Tryz.func71,Tryz.ntmps71
    go_wp2
    go_ret
    exact ⟨rfl,(Up.refl w).alloc _ _⟩
  have k4:=Classical.not_not.1 k4
  have u4:¬ (qq<0):=by omega
  by_cases k5:¬ (qq≤nn * 16777216)
  · obtain rfl:r=false:=HB.out (fun h=>k5 h.2.2.2.2.2.1)
    have u5:nn * 4096 * 4096<qq:=by omega
    clear HB HT
    go_enter Tryz.func71,Tryz.ntmps71
    go_wp2
    go_ret
    exact ⟨rfl,(Up.refl w).alloc _ _⟩
  have k5:=Classical.not_not.1 k5
  have u5:¬ (nn * 4096 * 4096<qq):=by omega
  have y1:=sq_bd (x:=s) (m:=268435456) (by omega) (by omega)
  have y2:=sq_nn s
  have y3:0≤nn * qq:=Int.mul_nonneg (by omega) k4
  have y4:nn * qq≤65536 * qq:=Int.mul_le_mul_of_nonneg_right k1 k4
  by_cases k6:¬ (s * s≤nn * qq)
  · obtain rfl:r=false:=HB.out (fun h=>k6 h.2.2.2.2.2.2)
    have u6:nn * qq<s * s:=by omega
    clear HB HT
    go_enter Tryz.func71,Tryz.ntmps71
    go_wp2
    go_ret
    exact ⟨rfl,(Up.refl w).alloc _ _⟩
  have k6:=Classical.not_not.1 k6
  have u6:¬ (nn * qq<s * s):=by omega
  obtain rfl:r=true:=HT.out ⟨k0,k1,k2,k3,k4,k5,k6⟩
  clear HB HT
  go_enter Tryz.func71,Tryz.ntmps71
  go_wp2
  go_ret
  exact ⟨rfl,(Up.refl w).alloc _ _⟩

set_option maxHeartbeats 4000000 in
set_option maxRecDepth 100000 in
theorem rof14_no (sq t nn s qq lo hi:Int) (h:myM ⟨sq,t,nn,s,qq,lo,hi⟩=false) (w:World) :
    Calls Tryz.prog 39 #[.agg #[.int .i64 sq,.int .i64 t,.int .i64 nn,.int .i64 s,.int .i64 qq,.int .i64 lo,.int .i64 hi]] w fun e w'=>e=gotR 0 0 false∧Up w w':=by
  have KH:=Lib.hid (rmay14_up sq t nn s qq lo hi)
  rw [h] at KH
  clear h
  go_enter Tryz.func39,Tryz.ntmps39
  go_wp2_with (go_at_call 71;(with_reducible refine (KH.out _).mono ?_);rintro e w1 ⟨rfl,hu⟩;have HU1:=Lib.hid ((((Up.refl w).alloc _ _).alloc _ _).trans hu);have a0:=hu.keep w.heap.size 0 (.int .i64 sq) (by simp [go_sem]);have a1:=hu.keep w.heap.size 1 (.int .i64 t) (by simp [go_sem]);have a2:=hu.keep w.heap.size 2 (.int .i64 nn) (by simp [go_sem]);have a3:=hu.keep w.heap.size 3 (.int .i64 s) (by simp [go_sem]);have a4:=hu.keep w.heap.size 4 (.int .i64 qq) (by simp [go_sem]);have a5:=hu.keep w.heap.size 5 (.int .i64 lo) (by simp [go_sem]);have a6:=hu.keep w.heap.size 6 (.int .i64 hi) (by simp [go_sem]);have r0:=hu.keep (w.heap.size+1) 0 (.int .i64 0) (by simp [go_sem]);have r1:=hu.keep (w.heap.size+1) 1 (.int .i64 0) (by simp [go_sem]);have z0:=HU1.out.ownGe (g:=w.heap.size+1) (by omega) 0;have z1:=HU1.out.ownGe (g:=w.heap.size+1) (by omega) 1;clear hu)
  refine bodyPost_ret (v:=.tuple #[.agg #[.int .i64 0,.int .i64 0],.bool false]) (by simp [results,Tryz.results39,go_sem,r0,r1]) rfl ⟨rfl,?_⟩
  exact HU1.out.setP2 (by omega)

set_option maxHeartbeats 4000000 in
set_option maxRecDepth 100000 in
theorem rof14_yes (sq t nn s qq lo hi:Int) (h:myM ⟨sq,t,nn,s,qq,lo,hi⟩=true) (w:World) :
    Calls Tryz.prog 39 #[.agg #[.int .i64 sq,.int .i64 t,.int .i64 nn,.int .i64 s,.int .i64 qq,.int .i64 lo,.int .i64 hi]] w fun e w'=>e=gotR (quoN (spM ⟨sq,t,nn,s,qq,lo,hi⟩) nn) (quoD (spM ⟨sq,t,nn,s,qq,lo,hi⟩) nn) true∧Up w w':=by
  have KH:=Lib.hid (rmay14_up sq t nn s qq lo hi)
  rw [h] at KH
  have KM:=Lib.hid (rmake_up (spM ⟨sq,t,nn,s,qq,lo,hi⟩) nn (spM_in h).1 (spM_in h).2)
  rw [show quoB (spM ⟨sq,t,nn,s,qq,lo,hi⟩) nn=true from spM_fit h] at KM
  obtain ⟨⟨a1,a2⟩,⟨a3,a4⟩,⟨a5,a6⟩,⟨a7,a8⟩,⟨a9,a10⟩,⟨a11,a12⟩⟩:=myM_bd h
  simp only at a1 a2 a3 a4 a5 a6 a7 a8 a9 a10
  generalize quoN (spM ⟨sq,t,nn,s,qq,lo,hi⟩) nn=x at *
  generalize quoD (spM ⟨sq,t,nn,s,qq,lo,hi⟩) nn=y at *
  rw [show spM ⟨sq,t,nn,s,qq,lo,hi⟩=nn * qq - s * s from rfl] at KM
  unfold gotR at KM ⊢
  have v1:IntKind.i64.wrap (nn * qq)=nn * qq:=by rw [IntKind.wrap_i64];omega
  have v2:IntKind.i64.wrap (s * s)=s * s:=by rw [IntKind.wrap_i64];omega
  have v3:IntKind.i64.wrap (nn * qq - s * s)=nn * qq - s * s:=by rw [IntKind.wrap_i64];omega
  clear h a11 a12 a1 a2 a3 a4 a5 a6 a7 a8 a9 a10
  go_enter Tryz.func39,Tryz.ntmps39
  go_wp2_with (first | (go_at_call 71;(with_reducible refine (KH.out _).mono ?_);rintro e w1 ⟨rfl,hu⟩;have HU1:=Lib.hid ((((Up.refl w).alloc _ _).alloc _ _).trans hu);have a0:=hu.keep w.heap.size 0 (.int .i64 sq) (by simp [go_sem]);have a1:=hu.keep w.heap.size 1 (.int .i64 t) (by simp [go_sem]);have a2:=hu.keep w.heap.size 2 (.int .i64 nn) (by simp [go_sem]);have a3:=hu.keep w.heap.size 3 (.int .i64 s) (by simp [go_sem]);have a4:=hu.keep w.heap.size 4 (.int .i64 qq) (by simp [go_sem]);have a5:=hu.keep w.heap.size 5 (.int .i64 lo) (by simp [go_sem]);have a6:=hu.keep w.heap.size 6 (.int .i64 hi) (by simp [go_sem]);have r0:=hu.keep (w.heap.size+1) 0 (.int .i64 0) (by simp [go_sem]);have r1:=hu.keep (w.heap.size+1) 1 (.int .i64 0) (by simp [go_sem]);have z0:=HU1.out.ownGe (g:=w.heap.size+1) (by omega) 0;have z1:=HU1.out.ownGe (g:=w.heap.size+1) (by omega) 1;clear hu) | (go_at_call 52;(with_reducible refine (KM.out _).mono ?_);rintro e w3 ⟨rfl,hu⟩;have HU3:=Lib.hid (HU1.out.trans hu);have r0:=hu.keep _ _ _ r0;have r1:=hu.keep _ _ _ r1;have z0:=HU3.out.ownGe (g:=w.heap.size+1) (by omega) 0;have z1:=HU3.out.ownGe (g:=w.heap.size+1) (by omega) 1;clear hu))
  refine bodyPost_ret (v:=.tuple #[.agg #[.int .i64 x,.int .i64 y],.bool true]) (by simp [results,Tryz.results39,go_sem,r0,r1]) rfl ⟨rfl,?_⟩
  exact HU3.out.setP2 (by omega)
theorem rof14_up (m:Mrk) (w:World):Calls Tryz.prog 39 #[.agg #[.int .i64 m.sq,.int .i64 m.t,.int .i64 m.n,.int .i64 m.s,.int .i64 m.q,.int .i64 m.lo,.int .i64 m.hi]] w fun e w'=>e=ofS m∧Up w w':=by
  unfold ofS
  cases h:myM m with
  | false=>rw [if_neg Bool.false_ne_true];exact rof14_no m.sq m.t m.n m.s m.q m.lo m.hi h w
  | true=>rw [if_pos rfl];exact rof14_yes m.sq m.t m.n m.s m.q m.lo m.hi h w
end Go.Proofs.YtafkoddgefcpnaaGreat
