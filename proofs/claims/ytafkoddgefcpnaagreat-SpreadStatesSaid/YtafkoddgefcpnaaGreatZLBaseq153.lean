/- Texts of these claims, one after the other. -/
import Derived.Test.YtafkoddgefcpnaaGreatRows
import Derived.Test.YtafkoddgefcpnaaGreatZLMaq168
import Derived.Test.YtafkoddgefcpnaaGreatZRMakeq136
namespace Go.Proofs.YtafkoddgefcpnaaGreat
open Go.RowKit
set_option linter.unusedVariables false

set_option maxHeartbeats 4000000 in
set_option maxRecDepth 100000 in
theorem hasSpread_up (sq t nn s qq lo hi:Int) (w:World) :
    Calls Tryz.prog 61 #[.agg #[.int .i64 sq,.int .i64 t,.int .i64 nn,.int .i64 s,.int .i64 qq,.int .i64 lo,.int .i64 hi]] w fun e w'=>e=.returned (.bool (myM ⟨sq,t,nn,s,qq,lo,hi⟩))∧Up w w':=by
  have HB:Hid (∀ _:¬ (1≤nn∧nn≤65536∧-(nn * 4096)≤s∧s≤nn * 4096∧0≤qq∧qq≤nn * 16777216∧s * s≤nn * qq),myM ⟨sq,t,nn,s,qq,lo,hi⟩=false):=Lib.hid (fun h=>decide_eq_false h)
  have HT:Hid (1≤nn∧nn≤65536∧-(nn * 4096)≤s∧s≤nn * 4096∧0≤qq∧qq≤nn * 16777216∧s * s≤nn * qq→myM ⟨sq,t,nn,s,qq,lo,hi⟩=true):=Lib.hid (fun h=>decide_eq_true h)
  generalize myM ⟨sq,t,nn,s,qq,lo,hi⟩=r at *
  by_cases k0:¬ (1≤nn)
  · obtain rfl:r=false:=HB.out (fun h=>k0 h.1)
    have u0:nn<1:=by omega
    clear HB HT
    go_enter Tryz.func61,Tryz.ntmps61
    go_wp2
    go_ret
    exact ⟨rfl,(Up.refl w).alloc _ _⟩
  have k0:=Classical.not_not.1 k0
  have u0:¬ (nn<1):=by omega
  by_cases k1:¬ (nn≤65536)
  · obtain rfl:r=false:=HB.out (fun h=>k1 h.2.1)
    have u1:65536<nn:=by omega
    clear HB HT
    go_enter Tryz.func61,Tryz.ntmps61
    go_wp2
    go_ret
    exact ⟨rfl,(Up.refl w).alloc _ _⟩
  have k1:=Classical.not_not.1 k1
  have u1:¬ (65536<nn):=by omega
  by_cases k2:¬ (-(nn * 4096)≤s)
  · obtain rfl:r=false:=HB.out (fun h=>k2 h.2.2.1)
    have u2:s < -nn * 4096:=by omega
    clear HB HT
    go_enter Tryz.func61,Tryz.ntmps61
    go_wp2
    go_ret
    exact ⟨rfl,(Up.refl w).alloc _ _⟩
  have k2:=Classical.not_not.1 k2
  have u2:¬ (s < -nn * 4096):=by omega
  by_cases k3:¬ (s≤nn * 4096)
  · obtain rfl:r=false:=HB.out (fun h=>k3 h.2.2.2.1)
    have u3:nn * 4096<s:=by omega
    clear HB HT
    go_enter Tryz.func61,Tryz.ntmps61
    go_wp2
    go_ret
    exact ⟨rfl,(Up.refl w).alloc _ _⟩
  have k3:=Classical.not_not.1 k3
  have u3:¬ (nn * 4096<s):=by omega
  by_cases k4:¬ (0≤qq)
  · obtain rfl:r=false:=HB.out (fun h=>k4 h.2.2.2.2.1)
    have u4:qq<0:=by omega
    clear HB HT
    go_enter Tryz.func61,Tryz.ntmps61
    go_wp2
    go_ret
    exact ⟨rfl,(Up.refl w).alloc _ _⟩
  have k4:=Classical.not_not.1 k4
  have u4:¬ (qq<0):=by omega
  by_cases k5:¬ (qq≤nn * 16777216)
  · obtain rfl:r=false:=HB.out (fun h=>k5 h.2.2.2.2.2.1)
    have u5:nn * 4096 * 4096<qq:=by omega
    clear HB HT
    go_enter Tryz.func61,Tryz.ntmps61
    go_wp2
    go_ret
    exact ⟨rfl,(Up.refl w).alloc _ _⟩
  have k5:=Classical.not_not.1 k5
  have u5:¬ (nn * 4096 * 4096<qq):=by omega
  have y1:=sq_bd (x:=s) (m:=268435456) (by omega) (by omega)
  have y2:=sq_nn s
  have y3:0≤nn * qq:=Int.mul_nonneg (by omega) k4
  have y4:nn * qq≤65536 * qq:=Int.mul_le_mul_of_nonneg_right k1 k4
  by_cases k6:¬ (s * s≤nn * qq)
  · obtain rfl:r=false:=HB.out (fun h=>k6 h.2.2.2.2.2.2)
    have u6:nn * qq<s * s:=by omega
    clear HB HT
    go_enter Tryz.func61,Tryz.ntmps61
    go_wp2
    go_ret
    exact ⟨rfl,(Up.refl w).alloc _ _⟩
  have k6:=Classical.not_not.1 k6
  have u6:¬ (nn * qq<s * s):=by omega
  obtain rfl:r=true:=HT.out ⟨k0,k1,k2,k3,k4,k5,k6⟩
  clear HB HT
  go_enter Tryz.func61,Tryz.ntmps61
  go_wp2
  go_ret
  exact ⟨rfl,(Up.refl w).alloc _ _⟩

set_option maxHeartbeats 4000000 in
set_option maxRecDepth 100000 in
theorem scaled_up (sq t nn s qq lo hi:Int) (h:myM ⟨sq,t,nn,s,qq,lo,hi⟩=true) (w:World) :
    Calls Tryz.prog 63 #[.agg #[.int .i64 sq,.int .i64 t,.int .i64 nn,.int .i64 s,.int .i64 qq,.int .i64 lo,.int .i64 hi]] w fun e w'=>e=.returned (.int .i64 (spM ⟨sq,t,nn,s,qq,lo,hi⟩))∧Up w w':=by
  obtain ⟨⟨a1,a2⟩,⟨a3,a4⟩,⟨a5,a6⟩,⟨a7,a8⟩,⟨a9,a10⟩,⟨a11,a12⟩⟩:=myM_bd h
  simp only at a1 a2 a3 a4 a5 a6 a7 a8 a9 a10
  rw [show spM ⟨sq,t,nn,s,qq,lo,hi⟩=nn * qq - s * s from rfl]
  clear h a11 a12
  go_enter Tryz.func63,Tryz.ntmps63
  go_wp2
  go_ret
  exact ⟨rfl,(Up.refl w).alloc _ _⟩

/-- What Of returns. -/
def ofS (m:Mrk):Ending:=if myM m=true then gotR (quoN (spM m) m.n) (quoD (spM m) m.n) true else gotR 0 0 false
theorem spM_in {m:Mrk} (h:myM m=true):In (spM m)∧In m.n:=by
  have:=myM_bd h
  exact ⟨⟨by omega,by omega⟩,⟨by omega,by omega⟩⟩
theorem Up.setP2 {w0 w:World} {p:Nat} {v0 v1:Value} (h:Up w0 w) (hp:w0.heap.size≤p):Up w0 ((w.setCell ⟨p,0,none⟩ v0).setCell ⟨p,1,none⟩ v1) :=
  (h.setCell hp _).setCell hp _
theorem farP2 {w:World} {p g o:Nat} {v0 v1:Value} {u:Value} (h:w.cell? ⟨g,o,none⟩=some u) (hp:p ≠ g):((w.setCell ⟨p,0,none⟩ v0).setCell ⟨p,1,none⟩ v1).cell? ⟨g,o,none⟩=some u :=
  (cell_far hp).trans ((cell_far hp).trans h)
theorem set2K7 {w w1:World} {p pa:Nat} {x0 x1 x2 x3 x4 x5 x6 v0 v1:Value} (h:Up w w1∧w1.cell? ⟨pa,0,none⟩=some x0∧w1.cell? ⟨pa,1,none⟩=some x1∧w1.cell? ⟨pa,2,none⟩=some x2∧w1.cell? ⟨pa,3,none⟩=some x3∧w1.cell? ⟨pa,4,none⟩=some x4∧w1.cell? ⟨pa,5,none⟩=some x5∧w1.cell? ⟨pa,6,none⟩=some x6) (hp:w.heap.size≤p) (ha:p ≠ pa):Up w ((w1.setCell ⟨p,0,none⟩ v0).setCell ⟨p,1,none⟩ v1)∧((w1.setCell ⟨p,0,none⟩ v0).setCell ⟨p,1,none⟩ v1).cell? ⟨pa,0,none⟩=some x0∧((w1.setCell ⟨p,0,none⟩ v0).setCell ⟨p,1,none⟩ v1).cell? ⟨pa,1,none⟩=some x1∧((w1.setCell ⟨p,0,none⟩ v0).setCell ⟨p,1,none⟩ v1).cell? ⟨pa,2,none⟩=some x2∧((w1.setCell ⟨p,0,none⟩ v0).setCell ⟨p,1,none⟩ v1).cell? ⟨pa,3,none⟩=some x3∧((w1.setCell ⟨p,0,none⟩ v0).setCell ⟨p,1,none⟩ v1).cell? ⟨pa,4,none⟩=some x4∧((w1.setCell ⟨p,0,none⟩ v0).setCell ⟨p,1,none⟩ v1).cell? ⟨pa,5,none⟩=some x5∧((w1.setCell ⟨p,0,none⟩ v0).setCell ⟨p,1,none⟩ v1).cell? ⟨pa,6,none⟩=some x6 :=
  ⟨(h.1.setCell hp _).setCell hp _,farP2 h.2.1 ha,farP2 h.2.2.1 ha,farP2 h.2.2.2.1 ha,farP2 h.2.2.2.2.1 ha,farP2 h.2.2.2.2.2.1 ha,farP2 h.2.2.2.2.2.2.1 ha,farP2 h.2.2.2.2.2.2.2 ha⟩

set_option maxHeartbeats 4000000 in
set_option maxRecDepth 100000 in
theorem of14_no (sq t nn s qq lo hi:Int) (h:myM ⟨sq,t,nn,s,qq,lo,hi⟩=false) (w:World) :
    Calls Tryz.prog 25 #[.agg #[.int .i64 sq,.int .i64 t,.int .i64 nn,.int .i64 s,.int .i64 qq,.int .i64 lo,.int .i64 hi]] w fun e w'=>e=gotR 0 0 false∧Up w w':=by
  have KH:=Lib.hid (hasSpread_up sq t nn s qq lo hi)
  rw [h] at KH
  clear h
  go_enter Tryz.func25,Tryz.ntmps25
  go_wp2_with (go_at_call 61;(with_reducible refine (KH.out _).mono ?_);rintro e w1 ⟨rfl,hu⟩;have HU1:=Lib.hid ((((Up.refl w).alloc _ _).alloc _ _).trans hu);have a0:=hu.keep w.heap.size 0 (.int .i64 sq) (by simp [go_sem]);have a1:=hu.keep w.heap.size 1 (.int .i64 t) (by simp [go_sem]);have a2:=hu.keep w.heap.size 2 (.int .i64 nn) (by simp [go_sem]);have a3:=hu.keep w.heap.size 3 (.int .i64 s) (by simp [go_sem]);have a4:=hu.keep w.heap.size 4 (.int .i64 qq) (by simp [go_sem]);have a5:=hu.keep w.heap.size 5 (.int .i64 lo) (by simp [go_sem]);have a6:=hu.keep w.heap.size 6 (.int .i64 hi) (by simp [go_sem]);have r0:=hu.keep (w.heap.size+1) 0 (.int .i64 0) (by simp [go_sem]);have r1:=hu.keep (w.heap.size+1) 1 (.int .i64 0) (by simp [go_sem]);have z0:=HU1.out.ownGe (g:=w.heap.size+1) (by omega) 0;have z1:=HU1.out.ownGe (g:=w.heap.size+1) (by omega) 1;have hlt:=World.block_lt_of_cell? _ _ r0;clear hu)
  refine bodyPost_ret (v:=.tuple #[.agg #[.int .i64 0,.int .i64 0],.bool false]) (by simp [results,Tryz.results25,go_sem,r0,r1]) rfl ⟨rfl,?_⟩
  exact HU1.out.setP2 (by omega)

set_option maxHeartbeats 4000000 in
set_option maxRecDepth 100000 in
theorem of14_yes (sq t nn s qq lo hi:Int) (h:myM ⟨sq,t,nn,s,qq,lo,hi⟩=true) (w:World) :
    Calls Tryz.prog 25 #[.agg #[.int .i64 sq,.int .i64 t,.int .i64 nn,.int .i64 s,.int .i64 qq,.int .i64 lo,.int .i64 hi]] w fun e w'=>e=gotR (quoN (spM ⟨sq,t,nn,s,qq,lo,hi⟩) nn) (quoD (spM ⟨sq,t,nn,s,qq,lo,hi⟩) nn) true∧Up w w':=by
  have KH:=Lib.hid (hasSpread_up sq t nn s qq lo hi)
  rw [h] at KH
  have KS:=Lib.hid (scaled_up sq t nn s qq lo hi h)
  have KM:=Lib.hid (make_up (spM ⟨sq,t,nn,s,qq,lo,hi⟩) nn (spM_in h).1 (spM_in h).2)
  rw [show quoB (spM ⟨sq,t,nn,s,qq,lo,hi⟩) nn=true from spM_fit h] at KM
  clear h
  generalize quoN (spM ⟨sq,t,nn,s,qq,lo,hi⟩) nn=x at *
  generalize quoD (spM ⟨sq,t,nn,s,qq,lo,hi⟩) nn=y at *
  generalize spM ⟨sq,t,nn,s,qq,lo,hi⟩=z at *
  unfold gotR at KM ⊢
  go_enter Tryz.func25,Tryz.ntmps25
  go_upto_region 3 with (go_at_call 61;(with_reducible refine (KH.out _).mono ?_);rintro e w1 ⟨rfl,hu⟩;have HU1:=Lib.hid ((((Up.refl w).alloc _ _).alloc _ _).trans hu);have a0:=hu.keep w.heap.size 0 (.int .i64 sq) (by simp [go_sem]);have a1:=hu.keep w.heap.size 1 (.int .i64 t) (by simp [go_sem]);have a2:=hu.keep w.heap.size 2 (.int .i64 nn) (by simp [go_sem]);have a3:=hu.keep w.heap.size 3 (.int .i64 s) (by simp [go_sem]);have a4:=hu.keep w.heap.size 4 (.int .i64 qq) (by simp [go_sem]);have a5:=hu.keep w.heap.size 5 (.int .i64 lo) (by simp [go_sem]);have a6:=hu.keep w.heap.size 6 (.int .i64 hi) (by simp [go_sem]);have r0:=hu.keep (w.heap.size+1) 0 (.int .i64 0) (by simp [go_sem]);have r1:=hu.keep (w.heap.size+1) 1 (.int .i64 0) (by simp [go_sem]);have z0:=HU1.out.ownGe (g:=w.heap.size+1) (by omega) 0;have z1:=HU1.out.ownGe (g:=w.heap.size+1) (by omega) 1;have hlt:=World.block_lt_of_cell? _ _ r0;clear hu)
  have HSS:Hid (Up w w1∧w1.cell? ⟨w.heap.size,0,none⟩=some (.int .i64 sq)∧w1.cell? ⟨w.heap.size,1,none⟩=some (.int .i64 t)∧w1.cell? ⟨w.heap.size,2,none⟩=some (.int .i64 nn)∧w1.cell? ⟨w.heap.size,3,none⟩=some (.int .i64 s)∧w1.cell? ⟨w.heap.size,4,none⟩=some (.int .i64 qq)∧w1.cell? ⟨w.heap.size,5,none⟩=some (.int .i64 lo)∧w1.cell? ⟨w.heap.size,6,none⟩=some (.int .i64 hi)):=Lib.hid ⟨HU1.out,a0,a1,a2,a3,a4,a5,a6⟩
  clear a0 a1 a2 a3 a4 a5 a6
  go_wp2_with fail
  refine wp_region_held_drew (S:=fun w'=>Up w w'∧w'.cell? ⟨w.heap.size,0,none⟩=some (.int .i64 sq)∧w'.cell? ⟨w.heap.size,1,none⟩=some (.int .i64 t)∧w'.cell? ⟨w.heap.size,2,none⟩=some (.int .i64 nn)∧w'.cell? ⟨w.heap.size,3,none⟩=some (.int .i64 s)∧w'.cell? ⟨w.heap.size,4,none⟩=some (.int .i64 qq)∧w'.cell? ⟨w.heap.size,5,none⟩=some (.int .i64 lo)∧w'.cell? ⟨w.heap.size,6,none⟩=some (.int .i64 hi)) (by kernel_rfl) ?hB1 (fun hHeld=>?_)
  case hB1=>(first | (with_reducible assumption) | (with_reducible exact keepK7 (Lib.hid (Up.refl _).drew) HSS.out) | (with_reducible exact HX2.out) | (with_reducible exact HX3.out) | (with_reducible exact set2K7 hHeld (by omega) (by omega)))
  refine takeT 0 rfl (by assumption) ?_
  (try simp only [Act.put,stpA,stpB,stpC])
  refine takeT 2 rfl (by assumption) ?_
  (try simp only [Act.put,stpA,stpB,stpC])
  refine takeT 3 rfl (by assumption) ?_
  (try simp only [Act.put,stpA,stpB,stpC])
  refine wpAnyH_ready (rs:=[1]) (by kernel_rfl) (by simp) ?_
  refine AllReadyH.cons (o:=⟨_,_,_,_,_,_⟩) rfl (fun K hK=>?_) AllReadyH.nil
  go_simp
  (go_at_call 63;(with_reducible refine (KS.out _).mono ?_);rintro e w2 ⟨rfl,hu⟩;have HU2:=Lib.hid hu;have HX2:=Lib.hid (keepK7 HU2 hHeld);have r0:=hu.keep _ _ _ r0;have r1:=hu.keep _ _ _ r1;clear hu)
  (try go_wp2_with fail)
  refine hK.out _ _ ?hB5 (fun hHeld=>?_)
  case hB5=>(first | (with_reducible assumption) | (with_reducible exact keepK7 (Lib.hid (Up.refl _).drew) HSS.out) | (with_reducible exact HX2.out) | (with_reducible exact HX3.out) | (with_reducible exact set2K7 hHeld (by omega) (by omega)))
  clear hK K
  (try simp only [Act.put,stpA,stpB,stpC])
  refine wpAnyH_ready (rs:=[4]) (by kernel_rfl) (by simp) ?_
  refine AllReadyH.cons (o:=⟨_,_,_,_,_,_⟩) rfl (fun K hK=>?_) AllReadyH.nil
  go_simp
  (go_at_call 62;(with_reducible refine (KM.out _).mono ?_);rintro e w3 ⟨rfl,hu⟩;have HU3:=Lib.hid hu;have HX3:=Lib.hid (keepK7 HU3 hHeld);have r0:=hu.keep _ _ _ r0;have r1:=hu.keep _ _ _ r1;have z0:=HX3.out.1.ownGe (g:=w.heap.size+1) (by omega) 0;have z1:=HX3.out.1.ownGe (g:=w.heap.size+1) (by omega) 1;clear hu)
  (try go_wp2_with fail)
  refine hK.out _ _ ?hB6 (fun hHeld=>?_)
  case hB6=>(first | (with_reducible assumption) | (with_reducible exact keepK7 (Lib.hid (Up.refl _).drew) HSS.out) | (with_reducible exact HX2.out) | (with_reducible exact HX3.out) | (with_reducible exact set2K7 hHeld (by omega) (by omega)))
  clear hK K
  (try simp only [Act.put,stpA,stpB,stpC])
  refine takeT 5 rfl (by assumption) ?_
  (try simp only [Act.put,stpA,stpB,stpC])
  refine takeT 6 rfl (by assumption) ?_
  (try simp only [Act.put,stpA,stpB,stpC])
  refine wpAnyH_ready (rs:=[7]) (by kernel_rfl) (by simp) ?_
  refine AllReadyH.cons (o:=⟨_,_,_,_,_,_⟩) rfl (fun K hK=>?_) AllReadyH.nil
  go_simp
  refine hK.out _ _ ?hB9 (fun hHeld=>?_)
  case hB9=>(first | (with_reducible assumption) | (with_reducible exact keepK7 (Lib.hid (Up.refl _).drew) HSS.out) | (with_reducible exact HX2.out) | (with_reducible exact HX3.out) | (with_reducible exact set2K7 hHeld (by omega) (by omega)))
  clear hK K
  (try simp only [Act.put,stpA,stpB,stpC])
  refine takeT 8 rfl (by assumption) ?_
  (try simp only [Act.put,stpA,stpB,stpC])
  refine wpAnyH_done (by kernel_rfl) ?_ _
  clear hHeld
  go_wp2_with fail
  refine bodyPost_ret (v:=.tuple #[.agg #[.int .i64 x,.int .i64 y],.bool true]) (by simp [results,Tryz.results25,go_sem,r0,r1]) rfl ⟨rfl,?_⟩
  exact HX3.out.1.setP2 (by omega)

theorem of14_up (m:Mrk) (w:World):Calls Tryz.prog 25 #[.agg #[.int .i64 m.sq,.int .i64 m.t,.int .i64 m.n,.int .i64 m.s,.int .i64 m.q,.int .i64 m.lo,.int .i64 m.hi]] w fun e w'=>e=ofS m∧Up w w':=by
  unfold ofS
  cases h:myM m with
  | false=>rw [if_neg Bool.false_ne_true];exact of14_no m.sq m.t m.n m.s m.q m.lo m.hi h w
  | true=>rw [if_pos rfl];exact of14_yes m.sq m.t m.n m.s m.q m.lo m.hi h w

end Go.Proofs.YtafkoddgefcpnaaGreat

namespace Go.Proofs.YtafkoddgefcpnaaGreat
open Go.RowKit
set_option linter.unusedVariables false

theorem cross_ge {a b c d:Int}:decide (0≤crossZ a b c d)=decide (c * d≤a * b):=by
  rw [crossZ_eq]
  refine decide_eq_decide.2 ⟨fun h=>?_,fun h=>?_⟩
  · have:=(cmpZ_neg (a * b) (c * d)).2
    omega
  · have:=(cmpZ_neg (a * b) (c * d)).1
    omega
/-- How great the products are that Close forms. -/
theorem close_bd {k n:Int} (hk:1≤k∧k≤64) (hn:1≤n∧n≤65536):(1≤6 * k * n∧6 * k * n≤25165824)∧(1≤(6 * k - 1) * n∧(6 * k - 1) * n≤25165824):=by
  have a1:6 * k * n≤384 * n:=Int.mul_le_mul_of_nonneg_right (by omega) (by omega)
  have a2:1 * n≤(6 * k - 1) * n:=Int.mul_le_mul_of_nonneg_right (by omega) (by omega)
  have a3:(6 * k - 1) * n=6 * k * n - n:=by rw [Int.sub_mul,Int.one_mul]
  omega
set_option maxHeartbeats 4000000 in
set_option maxRecDepth 100000 in
theorem close14_up (sq1 t1 nn1 s1 qq1 lo1 hi1 sq2 t2 nn2 s2 qq2 lo2 hi2 k:Int) (w:World) :
    Calls Tryz.prog 70 #[.agg #[.int .i64 sq1,.int .i64 t1,.int .i64 nn1,.int .i64 s1,.int .i64 qq1,.int .i64 lo1,.int .i64 hi1],.agg #[.int .i64 sq2,.int .i64 t2,.int .i64 nn2,.int .i64 s2,.int .i64 qq2,.int .i64 lo2,.int .i64 hi2],.int .i64 k] w fun e w'=>e=.returned (.bool (clQ k ⟨sq1,t1,nn1,s1,qq1,lo1,hi1⟩ ⟨sq2,t2,nn2,s2,qq2,lo2,hi2⟩))∧Up w w':=by
  have KA:=Lib.hid (hasSpread_up sq1 t1 nn1 s1 qq1 lo1 hi1)
  have KB:=Lib.hid (hasSpread_up sq2 t2 nn2 s2 qq2 lo2 hi2)
  cases ha:myM ⟨sq1,t1,nn1,s1,qq1,lo1,hi1⟩ with
  | false =>
    rw [clQ_no (fun h=>by rw [ha] at h;exact Bool.false_ne_true h.1)]
    rw [ha] at KA
    clear ha
    go_enter Tryz.func70,Tryz.ntmps70
    go_wp2_with (first | (go_at_call 61;(with_reducible refine (KA.out _).mono ?_);rintro e w1 ⟨rfl,hu⟩;have HU1:=Lib.hid ((((Up.refl w).alloc _ _).alloc _ _).trans hu);have a0:=hu.keep w.heap.size 0 (.int .i64 sq1) (by simp [go_sem]);have a1:=hu.keep w.heap.size 1 (.int .i64 t1) (by simp [go_sem]);have a2:=hu.keep w.heap.size 2 (.int .i64 nn1) (by simp [go_sem]);have a3:=hu.keep w.heap.size 3 (.int .i64 s1) (by simp [go_sem]);have a4:=hu.keep w.heap.size 4 (.int .i64 qq1) (by simp [go_sem]);have a5:=hu.keep w.heap.size 5 (.int .i64 lo1) (by simp [go_sem]);have a6:=hu.keep w.heap.size 6 (.int .i64 hi1) (by simp [go_sem]);have b0:=hu.keep (w.heap.size+1) 0 (.int .i64 sq2) (by simp [go_sem]);have b1:=hu.keep (w.heap.size+1) 1 (.int .i64 t2) (by simp [go_sem]);have b2:=hu.keep (w.heap.size+1) 2 (.int .i64 nn2) (by simp [go_sem]);have b3:=hu.keep (w.heap.size+1) 3 (.int .i64 s2) (by simp [go_sem]);have b4:=hu.keep (w.heap.size+1) 4 (.int .i64 qq2) (by simp [go_sem]);have b5:=hu.keep (w.heap.size+1) 5 (.int .i64 lo2) (by simp [go_sem]);have b6:=hu.keep (w.heap.size+1) 6 (.int .i64 hi2) (by simp [go_sem]);clear hu) | (go_at_call 61;(with_reducible refine (KB.out _).mono ?_);rintro e w2 ⟨rfl,hu⟩;have HU2:=Lib.hid (HU1.out.trans hu);have a0:=hu.keep _ _ _ a0;have a1:=hu.keep _ _ _ a1;have a2:=hu.keep _ _ _ a2;have a3:=hu.keep _ _ _ a3;have a4:=hu.keep _ _ _ a4;have a5:=hu.keep _ _ _ a5;have a6:=hu.keep _ _ _ a6;have b0:=hu.keep _ _ _ b0;have b1:=hu.keep _ _ _ b1;have b2:=hu.keep _ _ _ b2;have b3:=hu.keep _ _ _ b3;have b4:=hu.keep _ _ _ b4;have b5:=hu.keep _ _ _ b5;have b6:=hu.keep _ _ _ b6;clear hu))
    go_ret
    exact ⟨rfl,HU1.out⟩
  | true =>
  cases hb:myM ⟨sq2,t2,nn2,s2,qq2,lo2,hi2⟩ with
  | false =>
    rw [clQ_no (fun h=>by rw [hb] at h;exact Bool.false_ne_true h.2.1)]
    rw [ha] at KA
    rw [hb] at KB
    clear ha hb
    go_enter Tryz.func70,Tryz.ntmps70
    go_wp2_with (first | (go_at_call 61;(with_reducible refine (KA.out _).mono ?_);rintro e w1 ⟨rfl,hu⟩;have HU1:=Lib.hid ((((Up.refl w).alloc _ _).alloc _ _).trans hu);have a0:=hu.keep w.heap.size 0 (.int .i64 sq1) (by simp [go_sem]);have a1:=hu.keep w.heap.size 1 (.int .i64 t1) (by simp [go_sem]);have a2:=hu.keep w.heap.size 2 (.int .i64 nn1) (by simp [go_sem]);have a3:=hu.keep w.heap.size 3 (.int .i64 s1) (by simp [go_sem]);have a4:=hu.keep w.heap.size 4 (.int .i64 qq1) (by simp [go_sem]);have a5:=hu.keep w.heap.size 5 (.int .i64 lo1) (by simp [go_sem]);have a6:=hu.keep w.heap.size 6 (.int .i64 hi1) (by simp [go_sem]);have b0:=hu.keep (w.heap.size+1) 0 (.int .i64 sq2) (by simp [go_sem]);have b1:=hu.keep (w.heap.size+1) 1 (.int .i64 t2) (by simp [go_sem]);have b2:=hu.keep (w.heap.size+1) 2 (.int .i64 nn2) (by simp [go_sem]);have b3:=hu.keep (w.heap.size+1) 3 (.int .i64 s2) (by simp [go_sem]);have b4:=hu.keep (w.heap.size+1) 4 (.int .i64 qq2) (by simp [go_sem]);have b5:=hu.keep (w.heap.size+1) 5 (.int .i64 lo2) (by simp [go_sem]);have b6:=hu.keep (w.heap.size+1) 6 (.int .i64 hi2) (by simp [go_sem]);clear hu) | (go_at_call 61;(with_reducible refine (KB.out _).mono ?_);rintro e w2 ⟨rfl,hu⟩;have HU2:=Lib.hid (HU1.out.trans hu);have a0:=hu.keep _ _ _ a0;have a1:=hu.keep _ _ _ a1;have a2:=hu.keep _ _ _ a2;have a3:=hu.keep _ _ _ a3;have a4:=hu.keep _ _ _ a4;have a5:=hu.keep _ _ _ a5;have a6:=hu.keep _ _ _ a6;have b0:=hu.keep _ _ _ b0;have b1:=hu.keep _ _ _ b1;have b2:=hu.keep _ _ _ b2;have b3:=hu.keep _ _ _ b3;have b4:=hu.keep _ _ _ b4;have b5:=hu.keep _ _ _ b5;have b6:=hu.keep _ _ _ b6;clear hu))
    go_ret
    exact ⟨rfl,HU2.out⟩
  | true =>
  rw [ha] at KA
  rw [hb] at KB
  by_cases k1:k<1
  · rw [clQ_no (fun h=>by omega)]
    have tk1:decide (k<1)=true:=decide_eq_true k1
    clear ha hb
    go_enter Tryz.func70,Tryz.ntmps70
    go_wp2_with (first | (go_at_call 61;(with_reducible refine (KA.out _).mono ?_);rintro e w1 ⟨rfl,hu⟩;have HU1:=Lib.hid ((((Up.refl w).alloc _ _).alloc _ _).trans hu);have a0:=hu.keep w.heap.size 0 (.int .i64 sq1) (by simp [go_sem]);have a1:=hu.keep w.heap.size 1 (.int .i64 t1) (by simp [go_sem]);have a2:=hu.keep w.heap.size 2 (.int .i64 nn1) (by simp [go_sem]);have a3:=hu.keep w.heap.size 3 (.int .i64 s1) (by simp [go_sem]);have a4:=hu.keep w.heap.size 4 (.int .i64 qq1) (by simp [go_sem]);have a5:=hu.keep w.heap.size 5 (.int .i64 lo1) (by simp [go_sem]);have a6:=hu.keep w.heap.size 6 (.int .i64 hi1) (by simp [go_sem]);have b0:=hu.keep (w.heap.size+1) 0 (.int .i64 sq2) (by simp [go_sem]);have b1:=hu.keep (w.heap.size+1) 1 (.int .i64 t2) (by simp [go_sem]);have b2:=hu.keep (w.heap.size+1) 2 (.int .i64 nn2) (by simp [go_sem]);have b3:=hu.keep (w.heap.size+1) 3 (.int .i64 s2) (by simp [go_sem]);have b4:=hu.keep (w.heap.size+1) 4 (.int .i64 qq2) (by simp [go_sem]);have b5:=hu.keep (w.heap.size+1) 5 (.int .i64 lo2) (by simp [go_sem]);have b6:=hu.keep (w.heap.size+1) 6 (.int .i64 hi2) (by simp [go_sem]);clear hu) | (go_at_call 61;(with_reducible refine (KB.out _).mono ?_);rintro e w2 ⟨rfl,hu⟩;have HU2:=Lib.hid (HU1.out.trans hu);have a0:=hu.keep _ _ _ a0;have a1:=hu.keep _ _ _ a1;have a2:=hu.keep _ _ _ a2;have a3:=hu.keep _ _ _ a3;have a4:=hu.keep _ _ _ a4;have a5:=hu.keep _ _ _ a5;have a6:=hu.keep _ _ _ a6;have b0:=hu.keep _ _ _ b0;have b1:=hu.keep _ _ _ b1;have b2:=hu.keep _ _ _ b2;have b3:=hu.keep _ _ _ b3;have b4:=hu.keep _ _ _ b4;have b5:=hu.keep _ _ _ b5;have b6:=hu.keep _ _ _ b6;clear hu))
    go_ret
    exact ⟨rfl,HU2.out⟩
  have tk1:decide (k<1)=false:=decide_eq_false k1
  by_cases k2:64<k
  · rw [clQ_no (fun h=>by omega)]
    have tk2:decide (64<k)=true:=decide_eq_true k2
    clear ha hb
    go_enter Tryz.func70,Tryz.ntmps70
    go_wp2_with (first | (go_at_call 61;(with_reducible refine (KA.out _).mono ?_);rintro e w1 ⟨rfl,hu⟩;have HU1:=Lib.hid ((((Up.refl w).alloc _ _).alloc _ _).trans hu);have a0:=hu.keep w.heap.size 0 (.int .i64 sq1) (by simp [go_sem]);have a1:=hu.keep w.heap.size 1 (.int .i64 t1) (by simp [go_sem]);have a2:=hu.keep w.heap.size 2 (.int .i64 nn1) (by simp [go_sem]);have a3:=hu.keep w.heap.size 3 (.int .i64 s1) (by simp [go_sem]);have a4:=hu.keep w.heap.size 4 (.int .i64 qq1) (by simp [go_sem]);have a5:=hu.keep w.heap.size 5 (.int .i64 lo1) (by simp [go_sem]);have a6:=hu.keep w.heap.size 6 (.int .i64 hi1) (by simp [go_sem]);have b0:=hu.keep (w.heap.size+1) 0 (.int .i64 sq2) (by simp [go_sem]);have b1:=hu.keep (w.heap.size+1) 1 (.int .i64 t2) (by simp [go_sem]);have b2:=hu.keep (w.heap.size+1) 2 (.int .i64 nn2) (by simp [go_sem]);have b3:=hu.keep (w.heap.size+1) 3 (.int .i64 s2) (by simp [go_sem]);have b4:=hu.keep (w.heap.size+1) 4 (.int .i64 qq2) (by simp [go_sem]);have b5:=hu.keep (w.heap.size+1) 5 (.int .i64 lo2) (by simp [go_sem]);have b6:=hu.keep (w.heap.size+1) 6 (.int .i64 hi2) (by simp [go_sem]);clear hu) | (go_at_call 61;(with_reducible refine (KB.out _).mono ?_);rintro e w2 ⟨rfl,hu⟩;have HU2:=Lib.hid (HU1.out.trans hu);have a0:=hu.keep _ _ _ a0;have a1:=hu.keep _ _ _ a1;have a2:=hu.keep _ _ _ a2;have a3:=hu.keep _ _ _ a3;have a4:=hu.keep _ _ _ a4;have a5:=hu.keep _ _ _ a5;have a6:=hu.keep _ _ _ a6;have b0:=hu.keep _ _ _ b0;have b1:=hu.keep _ _ _ b1;have b2:=hu.keep _ _ _ b2;have b3:=hu.keep _ _ _ b3;have b4:=hu.keep _ _ _ b4;have b5:=hu.keep _ _ _ b5;have b6:=hu.keep _ _ _ b6;clear hu))
    go_ret
    exact ⟨rfl,HU2.out⟩
  have tk2:decide (64<k)=false:=decide_eq_false k2
  have hk:1≤k∧k≤64:=by omega
  rw [clQ_form ha hb hk]
  have q1:=myM_bd ha
  have q2:=myM_bd hb
  have d1:=close_bd hk q1.1
  have d2:=close_bd hk q2.1
  simp only at q1 q2 d1 d2 ⊢
  obtain ⟨k1_,k2_⟩:=hk
  have w1_:IntKind.i64.wrap (6 * k)=6 * k:=by rw [IntKind.wrap_i64];omega
  have w2_:IntKind.i64.wrap (6 * k - 1)=6 * k - 1:=by rw [IntKind.wrap_i64];omega
  have w3_:IntKind.i64.wrap (6 * k * nn2)=6 * k * nn2:=by rw [IntKind.wrap_i64];omega
  have w4_:IntKind.i64.wrap ((6 * k - 1) * nn1)=(6 * k - 1) * nn1:=by rw [IntKind.wrap_i64];omega
  have w5_:IntKind.i64.wrap (6 * k * nn1)=6 * k * nn1:=by rw [IntKind.wrap_i64];omega
  have w6_:IntKind.i64.wrap ((6 * k - 1) * nn2)=(6 * k - 1) * nn2:=by rw [IntKind.wrap_i64];omega
  by_cases hn:6 * k * nn2<(6 * k - 1) * nn1
  · rw [decide_eq_false (p:=(6 * k - 1) * nn1≤6 * k * nn2) (by omega),Bool.false_and]
    have tk3:decide (6 * k * nn2<(6 * k - 1) * nn1)=true:=decide_eq_true hn
    clear ha hb q1 q2 d1 d2 hn
    go_enter Tryz.func70,Tryz.ntmps70
    go_wp2_with (first | (go_at_call 61;(with_reducible refine (KA.out _).mono ?_);rintro e w1 ⟨rfl,hu⟩;have HU1:=Lib.hid ((((Up.refl w).alloc _ _).alloc _ _).trans hu);have a0:=hu.keep w.heap.size 0 (.int .i64 sq1) (by simp [go_sem]);have a1:=hu.keep w.heap.size 1 (.int .i64 t1) (by simp [go_sem]);have a2:=hu.keep w.heap.size 2 (.int .i64 nn1) (by simp [go_sem]);have a3:=hu.keep w.heap.size 3 (.int .i64 s1) (by simp [go_sem]);have a4:=hu.keep w.heap.size 4 (.int .i64 qq1) (by simp [go_sem]);have a5:=hu.keep w.heap.size 5 (.int .i64 lo1) (by simp [go_sem]);have a6:=hu.keep w.heap.size 6 (.int .i64 hi1) (by simp [go_sem]);have b0:=hu.keep (w.heap.size+1) 0 (.int .i64 sq2) (by simp [go_sem]);have b1:=hu.keep (w.heap.size+1) 1 (.int .i64 t2) (by simp [go_sem]);have b2:=hu.keep (w.heap.size+1) 2 (.int .i64 nn2) (by simp [go_sem]);have b3:=hu.keep (w.heap.size+1) 3 (.int .i64 s2) (by simp [go_sem]);have b4:=hu.keep (w.heap.size+1) 4 (.int .i64 qq2) (by simp [go_sem]);have b5:=hu.keep (w.heap.size+1) 5 (.int .i64 lo2) (by simp [go_sem]);have b6:=hu.keep (w.heap.size+1) 6 (.int .i64 hi2) (by simp [go_sem]);clear hu) | (go_at_call 61;(with_reducible refine (KB.out _).mono ?_);rintro e w2 ⟨rfl,hu⟩;have HU2:=Lib.hid (HU1.out.trans hu);have a0:=hu.keep _ _ _ a0;have a1:=hu.keep _ _ _ a1;have a2:=hu.keep _ _ _ a2;have a3:=hu.keep _ _ _ a3;have a4:=hu.keep _ _ _ a4;have a5:=hu.keep _ _ _ a5;have a6:=hu.keep _ _ _ a6;have b0:=hu.keep _ _ _ b0;have b1:=hu.keep _ _ _ b1;have b2:=hu.keep _ _ _ b2;have b3:=hu.keep _ _ _ b3;have b4:=hu.keep _ _ _ b4;have b5:=hu.keep _ _ _ b5;have b6:=hu.keep _ _ _ b6;clear hu))
    go_ret
    exact ⟨rfl,HU2.out⟩
  have tk3:decide (6 * k * nn2<(6 * k - 1) * nn1)=false:=decide_eq_false hn
  rw [decide_eq_true (p:=(6 * k - 1) * nn1≤6 * k * nn2) (by omega),Bool.true_and]
  have K1:=Lib.hid (scaled_up sq2 t2 nn2 s2 qq2 lo2 hi2 hb)
  have K2:=Lib.hid (scaled_up sq1 t1 nn1 s1 qq1 lo1 hi1 ha)
  have K3:=Lib.hid (cross_up (spM ⟨sq2,t2,nn2,s2,qq2,lo2,hi2⟩) (6 * k * nn1) (spM ⟨sq1,t1,nn1,s1,qq1,lo1,hi1⟩) ((6 * k - 1) * nn2) (spM_in hb).1 ⟨by omega,by omega⟩ (spM_in ha).1 ⟨by omega,by omega⟩)
  have HD:=Lib.hid (cross_ge (a:=spM ⟨sq2,t2,nn2,s2,qq2,lo2,hi2⟩) (b:=6 * k * nn1) (c:=spM ⟨sq1,t1,nn1,s1,qq1,lo1,hi1⟩) (d:=(6 * k - 1) * nn2))
  rw [← HD.out]
  clear HD ha hb q1 q2 d1 d2 hn
  generalize spM ⟨sq1,t1,nn1,s1,qq1,lo1,hi1⟩=za at *
  generalize spM ⟨sq2,t2,nn2,s2,qq2,lo2,hi2⟩=zb at *
  generalize crossZ zb (6 * k * nn1) za ((6 * k - 1) * nn2)=x at *
  go_enter Tryz.func70,Tryz.ntmps70
  go_upto_region 6 with (first | (go_at_call 61;(with_reducible refine (KA.out _).mono ?_);rintro e w1 ⟨rfl,hu⟩;have HU1:=Lib.hid ((((Up.refl w).alloc _ _).alloc _ _).trans hu);have a0:=hu.keep w.heap.size 0 (.int .i64 sq1) (by simp [go_sem]);have a1:=hu.keep w.heap.size 1 (.int .i64 t1) (by simp [go_sem]);have a2:=hu.keep w.heap.size 2 (.int .i64 nn1) (by simp [go_sem]);have a3:=hu.keep w.heap.size 3 (.int .i64 s1) (by simp [go_sem]);have a4:=hu.keep w.heap.size 4 (.int .i64 qq1) (by simp [go_sem]);have a5:=hu.keep w.heap.size 5 (.int .i64 lo1) (by simp [go_sem]);have a6:=hu.keep w.heap.size 6 (.int .i64 hi1) (by simp [go_sem]);have b0:=hu.keep (w.heap.size+1) 0 (.int .i64 sq2) (by simp [go_sem]);have b1:=hu.keep (w.heap.size+1) 1 (.int .i64 t2) (by simp [go_sem]);have b2:=hu.keep (w.heap.size+1) 2 (.int .i64 nn2) (by simp [go_sem]);have b3:=hu.keep (w.heap.size+1) 3 (.int .i64 s2) (by simp [go_sem]);have b4:=hu.keep (w.heap.size+1) 4 (.int .i64 qq2) (by simp [go_sem]);have b5:=hu.keep (w.heap.size+1) 5 (.int .i64 lo2) (by simp [go_sem]);have b6:=hu.keep (w.heap.size+1) 6 (.int .i64 hi2) (by simp [go_sem]);clear hu) | (go_at_call 61;(with_reducible refine (KB.out _).mono ?_);rintro e w2 ⟨rfl,hu⟩;have HU2:=Lib.hid (HU1.out.trans hu);have a0:=hu.keep _ _ _ a0;have a1:=hu.keep _ _ _ a1;have a2:=hu.keep _ _ _ a2;have a3:=hu.keep _ _ _ a3;have a4:=hu.keep _ _ _ a4;have a5:=hu.keep _ _ _ a5;have a6:=hu.keep _ _ _ a6;have b0:=hu.keep _ _ _ b0;have b1:=hu.keep _ _ _ b1;have b2:=hu.keep _ _ _ b2;have b3:=hu.keep _ _ _ b3;have b4:=hu.keep _ _ _ b4;have b5:=hu.keep _ _ _ b5;have b6:=hu.keep _ _ _ b6;clear hu))
  have HSS:Hid (Up w w2∧w2.cell? ⟨w.heap.size,0,none⟩=some (.int .i64 sq1)∧w2.cell? ⟨w.heap.size,1,none⟩=some (.int .i64 t1)∧w2.cell? ⟨w.heap.size,2,none⟩=some (.int .i64 nn1)∧w2.cell? ⟨w.heap.size,3,none⟩=some (.int .i64 s1)∧w2.cell? ⟨w.heap.size,4,none⟩=some (.int .i64 qq1)∧w2.cell? ⟨w.heap.size,5,none⟩=some (.int .i64 lo1)∧w2.cell? ⟨w.heap.size,6,none⟩=some (.int .i64 hi1)∧w2.cell? ⟨(w.heap.size+1),0,none⟩=some (.int .i64 sq2)∧w2.cell? ⟨(w.heap.size+1),1,none⟩=some (.int .i64 t2)∧w2.cell? ⟨(w.heap.size+1),2,none⟩=some (.int .i64 nn2)∧w2.cell? ⟨(w.heap.size+1),3,none⟩=some (.int .i64 s2)∧w2.cell? ⟨(w.heap.size+1),4,none⟩=some (.int .i64 qq2)∧w2.cell? ⟨(w.heap.size+1),5,none⟩=some (.int .i64 lo2)∧w2.cell? ⟨(w.heap.size+1),6,none⟩=some (.int .i64 hi2)):=Lib.hid ⟨HU2.out,a0,a1,a2,a3,a4,a5,a6,b0,b1,b2,b3,b4,b5,b6⟩
  clear a0 a1 a2 a3 a4 a5 a6 b0 b1 b2 b3 b4 b5 b6
  go_wp2_with fail
  refine wp_region_held_drew (S:=fun w'=>Up w w'∧w'.cell? ⟨w.heap.size,0,none⟩=some (.int .i64 sq1)∧w'.cell? ⟨w.heap.size,1,none⟩=some (.int .i64 t1)∧w'.cell? ⟨w.heap.size,2,none⟩=some (.int .i64 nn1)∧w'.cell? ⟨w.heap.size,3,none⟩=some (.int .i64 s1)∧w'.cell? ⟨w.heap.size,4,none⟩=some (.int .i64 qq1)∧w'.cell? ⟨w.heap.size,5,none⟩=some (.int .i64 lo1)∧w'.cell? ⟨w.heap.size,6,none⟩=some (.int .i64 hi1)∧w'.cell? ⟨(w.heap.size+1),0,none⟩=some (.int .i64 sq2)∧w'.cell? ⟨(w.heap.size+1),1,none⟩=some (.int .i64 t2)∧w'.cell? ⟨(w.heap.size+1),2,none⟩=some (.int .i64 nn2)∧w'.cell? ⟨(w.heap.size+1),3,none⟩=some (.int .i64 s2)∧w'.cell? ⟨(w.heap.size+1),4,none⟩=some (.int .i64 qq2)∧w'.cell? ⟨(w.heap.size+1),5,none⟩=some (.int .i64 lo2)∧w'.cell? ⟨(w.heap.size+1),6,none⟩=some (.int .i64 hi2)) (by kernel_rfl) ?hB11 (fun hHeld=>?_)
  case hB11=>(first | (with_reducible assumption) | (with_reducible exact keepK14 (Lib.hid (Up.refl _).drew) HSS.out) | (with_reducible exact HX3.out) | (with_reducible exact HX4.out) | (with_reducible exact HX5.out))
  refine takeT 0 rfl (by assumption) ?_
  (try simp only [Act.put,stpA,stpB,stpC])
  refine takeT 2 rfl (by assumption) ?_
  (try simp only [Act.put,stpA,stpB,stpC])
  refine takeT 3 rfl (by assumption) ?_
  (try simp only [Act.put,stpA,stpB,stpC])
  refine takeT 4 rfl (by assumption) ?_
  (try simp only [Act.put,stpA,stpB,stpC])
  refine takeT 5 rfl (by assumption) ?_
  (try simp only [Act.put,stpA,stpB,stpC])
  refine takeT 6 rfl (by assumption) ?_
  (try simp only [Act.put,stpA,stpB,stpC])
  refine takeT 8 rfl (by assumption) ?_
  (try simp only [Act.put,stpA,stpB,stpC])
  refine takeT 9 rfl (by assumption) ?_
  (try simp only [Act.put,stpA,stpB,stpC])
  refine takeT 10 rfl (by assumption) ?_
  (try simp only [Act.put,stpA,stpB,stpC])
  refine takeT 11 rfl (by assumption) ?_
  (try simp only [Act.put,stpA,stpB,stpC])
  refine wpAnyH_ready (rs:=[1]) (by kernel_rfl) (by simp) ?_
  refine AllReadyH.cons (o:=⟨_,_,_,_,_,_⟩) rfl (fun K hK=>?_) AllReadyH.nil
  go_simp
  (go_at_call 63;(with_reducible refine (K1.out _).mono ?_);rintro e w3 ⟨rfl,hu⟩;have HU3:=Lib.hid hu;have HX3:=Lib.hid (keepK14 HU3 hHeld);clear hu)
  (try go_wp2_with fail)
  refine hK.out _ _ ?hB22 (fun hHeld=>?_)
  case hB22=>(first | (with_reducible assumption) | (with_reducible exact keepK14 (Lib.hid (Up.refl _).drew) HSS.out) | (with_reducible exact HX3.out) | (with_reducible exact HX4.out) | (with_reducible exact HX5.out))
  clear hK K
  (try simp only [Act.put,stpA,stpB,stpC])
  refine wpAnyH_ready (rs:=[7]) (by kernel_rfl) (by simp) ?_
  refine AllReadyH.cons (o:=⟨_,_,_,_,_,_⟩) rfl (fun K hK=>?_) AllReadyH.nil
  go_simp
  (go_at_call 63;(with_reducible refine (K2.out _).mono ?_);rintro e w4 ⟨rfl,hu⟩;have HU4:=Lib.hid hu;have HX4:=Lib.hid (keepK14 HU4 hHeld);clear hu)
  (try go_wp2_with fail)
  refine hK.out _ _ ?hB23 (fun hHeld=>?_)
  case hB23=>(first | (with_reducible assumption) | (with_reducible exact keepK14 (Lib.hid (Up.refl _).drew) HSS.out) | (with_reducible exact HX3.out) | (with_reducible exact HX4.out) | (with_reducible exact HX5.out))
  clear hK K
  (try simp only [Act.put,stpA,stpB,stpC])
  refine wpAnyH_ready (rs:=[12]) (by kernel_rfl) (by simp) ?_
  refine AllReadyH.cons (o:=⟨_,_,_,_,_,_⟩) rfl (fun K hK=>?_) AllReadyH.nil
  go_simp
  (go_at_call 91;(with_reducible refine (K3.out _).mono ?_);rintro e w5 ⟨rfl,hu⟩;have HU5:=Lib.hid hu;have HX5:=Lib.hid (keepK14 HU5 hHeld);clear hu)
  (try go_wp2_with fail)
  refine hK.out _ _ ?hB24 (fun hHeld=>?_)
  case hB24=>(first | (with_reducible assumption) | (with_reducible exact keepK14 (Lib.hid (Up.refl _).drew) HSS.out) | (with_reducible exact HX3.out) | (with_reducible exact HX4.out) | (with_reducible exact HX5.out))
  clear hK K
  (try simp only [Act.put,stpA,stpB,stpC])
  refine takeT 13 rfl (by assumption) ?_
  (try simp only [Act.put,stpA,stpB,stpC])
  refine takeT 14 rfl (by assumption) ?_
  (try simp only [Act.put,stpA,stpB,stpC])
  refine wpAnyH_done (by kernel_rfl) ?_ _
  go_wp2_with fail
  go_ret
  exact ⟨rfl,HX5.out.1⟩

set_option maxHeartbeats 4000000 in
set_option maxRecDepth 100000 in
theorem closeC_up (b1:Nat) (sq1 t1 nn1 s1 qq1 lo1 hi1 sq2 t2 nn2 s2 qq2 lo2 hi2 k:Int) (w:World) (hb:w.cell? ⟨b1,0,none⟩=some (.int .i64 k)) :
    Calls Tryz.prog 69 #[.agg #[.int .i64 sq1,.int .i64 t1,.int .i64 nn1,.int .i64 s1,.int .i64 qq1,.int .i64 lo1,.int .i64 hi1],.agg #[.int .i64 sq2,.int .i64 t2,.int .i64 nn2,.int .i64 s2,.int .i64 qq2,.int .i64 lo2,.int .i64 hi2],.pointer (some ⟨b1,0,none⟩)] w fun e w'=>e=.returned (.bool (clQ k ⟨sq1,t1,nn1,s1,qq1,lo1,hi1⟩ ⟨sq2,t2,nn2,s2,qq2,lo2,hi2⟩))∧Up w w':=by
  have KC:=Lib.hid (close14_up sq1 t1 nn1 s1 qq1 lo1 hi1 sq2 t2 nn2 s2 qq2 lo2 hi2 k)
  generalize clQ k ⟨sq1,t1,nn1,s1,qq1,lo1,hi1⟩ ⟨sq2,t2,nn2,s2,qq2,lo2,hi2⟩=r at *
  have hb1:=(Up.refl w).alloc #[.int .i64 sq1,.int .i64 t1,.int .i64 nn1,.int .i64 s1,.int .i64 qq1,.int .i64 lo1,.int .i64 hi1] 56
  have hb2:=(((Up.refl w).alloc #[.int .i64 sq1,.int .i64 t1,.int .i64 nn1,.int .i64 s1,.int .i64 qq1,.int .i64 lo1,.int .i64 hi1] 56).alloc #[.int .i64 sq2,.int .i64 t2,.int .i64 nn2,.int .i64 s2,.int .i64 qq2,.int .i64 lo2,.int .i64 hi2] 56).keep _ _ _ hb
  clear hb hb1
  go_enter Tryz.func69,Tryz.ntmps69
  go_wp2_with (go_at_call 70;(with_reducible refine (KC.out _).mono ?_);rintro e w1 ⟨rfl,hu⟩;have HU1:=Lib.hid ((((Up.refl w).alloc _ _).alloc _ _).trans hu);clear hu)
  go_ret
  exact ⟨rfl,HU1.out⟩
theorem closeness_up (k:Int) (w:World) :
    Calls Tryz.prog 32 #[.int .i64 k] w fun e w'=>∃ b1:Nat,e=.returned (.func (.func 69) #[] #[.pointer (some ⟨b1,0,none⟩)])∧Up w w'∧w'.cell? ⟨b1,0,none⟩=some (.int .i64 k):=by
  have hmf:∀ (fn:Fn) (first cap:Array Value) (w:World),(Instr.makeFunc fn first cap).run Tryz.prog w=.ok (.func fn first cap) w:=fun _ _ _ _=>rfl
  go_enter Tryz.func32,Tryz.ntmps32
  go_wp2_with fail
  go_ret
  exact ⟨w.heap.size,rfl,(Up.refl w).alloc _ _,by simp [go_sem]⟩
theorem close_rule (b1:Nat) (k:Int) (w:World) (hb:w.cell? ⟨b1,0,none⟩=some (.int .i64 k)) :
    ∀ P M:Mrk,True→True→∀ W,Up w W→Calls Tryz.prog 69 #[.agg #[.int .i64 P.sq,.int .i64 P.t,.int .i64 P.n,.int .i64 P.s,.int .i64 P.q,.int .i64 P.lo,.int .i64 P.hi],.agg #[.int .i64 M.sq,.int .i64 M.t,.int .i64 M.n,.int .i64 M.s,.int .i64 M.q,.int .i64 M.lo,.int .i64 M.hi],.pointer (some ⟨b1,0,none⟩)] W fun e w'=>e=.returned (.bool (clQ k P M))∧Up W w' :=
  fun P M _ _ W h=>closeC_up b1 P.sq P.t P.n P.s P.q P.lo P.hi M.sq M.t M.n M.s M.q M.lo M.hi k W (h.keep _ _ _ hb)
end Go.Proofs.YtafkoddgefcpnaaGreat

namespace Go.Proofs.YtafkoddgefcpnaaGreat
open Go.RowKit
set_option linter.unusedVariables false

theorem keepL6 {w w1 w2:World} {b0 o0 b1 o1 b2 o2 b3 o3 b4 o4 b5 o5:Nat} {x0 x1 x2 x3 x4 x5:Value} (hu:Hid (Up w1 w2)) (h:Up w w1∧w1.cell? ⟨b0,o0,none⟩=some x0∧w1.cell? ⟨b1,o1,none⟩=some x1∧w1.cell? ⟨b2,o2,none⟩=some x2∧w1.cell? ⟨b3,o3,none⟩=some x3∧w1.cell? ⟨b4,o4,none⟩=some x4∧w1.cell? ⟨b5,o5,none⟩=some x5):Up w w2∧w2.cell? ⟨b0,o0,none⟩=some x0∧w2.cell? ⟨b1,o1,none⟩=some x1∧w2.cell? ⟨b2,o2,none⟩=some x2∧w2.cell? ⟨b3,o3,none⟩=some x3∧w2.cell? ⟨b4,o4,none⟩=some x4∧w2.cell? ⟨b5,o5,none⟩=some x5 :=
  ⟨h.1.trans hu.out,hu.out.keep _ _ _ h.2.1,hu.out.keep _ _ _ h.2.2.1,hu.out.keep _ _ _ h.2.2.2.1,hu.out.keep _ _ _ h.2.2.2.2.1,hu.out.keep _ _ _ h.2.2.2.2.2.1,hu.out.keep _ _ _ h.2.2.2.2.2.2⟩
theorem Up.setP6 {w0 w:World} {p:Nat} {v0 v1 v2 v3 v4 v5:Value} (h:Up w0 w) (hp:w0.heap.size≤p):Up w0 ((((((w.setCell ⟨p,0,none⟩ (v0)).setCell ⟨p,1,none⟩ (v1)).setCell ⟨p,2,none⟩ (v2)).setCell ⟨p,3,none⟩ (v3)).setCell ⟨p,4,none⟩ (v4)).setCell ⟨p,5,none⟩ (v5)) :=
  (((((h.setCell hp _).setCell hp _).setCell hp _).setCell hp _).setCell hp _).setCell hp _
theorem SG.offP6 {α:Type} {f:α→List Value} {w:World} {A:Option Addr} {n p:Nat} {M:List α} (h:SG f w A n M) (hn:∀ b o,A=some ⟨b,o,none⟩→b ≠ p) (v0 v1 v2 v3 v4 v5:Value):SG f ((((((w.setCell ⟨p,0,none⟩ (v0)).setCell ⟨p,1,none⟩ (v1)).setCell ⟨p,2,none⟩ (v2)).setCell ⟨p,3,none⟩ (v3)).setCell ⟨p,4,none⟩ (v4)).setCell ⟨p,5,none⟩ (v5)) A n M :=
  (((((h.off hn _).off hn _).off hn _).off hn _).off hn _).off hn _
set_option maxHeartbeats 4000000 in
set_option maxRecDepth 100000 in
theorem toSmooth_up (v q c now seq:Int) (n k:Nat) (A:Option Addr) (w:World) :
    Calls Tryz.prog 27 #[.agg #[.int .i64 v,.int .i64 q,.int .i64 c,.int .i64 now,.int .i64 seq,.slice A n k]] w fun e w'=>e=.returned (.agg #[.int .i64 4,.int .i64 v,.int .i64 q,.int .i64 c,.int .i64 now,.int .i64 seq,.slice A n k])∧Up w w':=by
  go_enter Tryz.func27,Tryz.ntmps27
  go_wp2
  refine bodyPost_ret (v:=.agg #[.int .i64 4,.int .i64 v,.int .i64 q,.int .i64 c,.int .i64 now,.int .i64 seq,.slice A n k]) (by simp [results,Tryz.results27,go_sem]) rfl ⟨?_,?_⟩
  · rfl
  · repeat (first | exact Up.refl _ | refine Up.alloc ?_ _ _ | refine Up.setCell ?_ (by first | (simp;done) | (simp;omega) | omega) _ | refine Up.drewN ?_ _ | refine Up.drew ?_)
set_option maxHeartbeats 4000000 in
set_option maxRecDepth 100000 in
theorem fromSmooth_up (g v q c now seq:Int) (n k:Nat) (A:Option Addr) (w:World) :
    Calls Tryz.prog 28 #[.agg #[.int .i64 g,.int .i64 v,.int .i64 q,.int .i64 c,.int .i64 now,.int .i64 seq,.slice A n k]] w fun e w'=>e=.returned (.agg #[.int .i64 v,.int .i64 q,.int .i64 c,.int .i64 now,.int .i64 seq,.slice A n k])∧Up w w':=by
  go_enter Tryz.func28,Tryz.ntmps28
  go_wp2
  refine bodyPost_ret (v:=.agg #[.int .i64 v,.int .i64 q,.int .i64 c,.int .i64 now,.int .i64 seq,.slice A n k]) (by simp [results,Tryz.results28,go_sem]) rfl ⟨?_,?_⟩
  · rfl
  · repeat (first | exact Up.refl _ | refine Up.alloc ?_ _ _ | refine Up.setCell ?_ (by first | (simp;done) | (simp;omega) | omega) _ | refine Up.drewN ?_ _ | refine Up.drew ?_)
theorem stP_form (v q c now seq:Int) (X:List Mrk):stP v q c now seq X=(mayM 4 v q c now && (mrkB 4 v c now seq X && dfB (clQ q) X)):=by
  unfold mayM
  rw [show agB 4=true from rfl,Bool.true_and]
  rfl

set_option maxHeartbeats 4000000 in
set_option maxRecDepth 100000 in
theorem validate14_up (v q c now seq:Int) (n k:Nat) (A:Option Addr) (X:List Mrk) (hn:n≤50000) (w:World) (hS:SG cM w A n X) :
    Calls Tryz.prog 13 #[.agg #[.int .i64 v,.int .i64 q,.int .i64 c,.int .i64 now,.int .i64 seq,.slice A n k]] w fun e w'=>e=.returned (.int .i64 (stPE v q c now seq X))∧Up w w':=by
  have KT:=Lib.hid (toSmooth_up v q c now seq n k A)
  have KN:=Lib.hid (closeness_up q)
  have KV:=Lib.hid (fun (b1:Nat) W (hu:Up w W) (hb:W.cell? ⟨b1,0,none⟩=some (.int .i64 q))=>mvalidS_up (clQ q) (fun _=>True) b1 4 v q c now seq n k A X hn (fun _ _ _ _=>trivial) W (close_rule b1 q W hb) (hS.up hu))
  rw [← stP_form] at KV
  have HSS:Hid (Up w (w.alloc (.cells #[.int .i64 v,.int .i64 q,.int .i64 c,.int .i64 now,.int .i64 seq,.slice A n k] 24))∧(w.alloc (.cells #[.int .i64 v,.int .i64 q,.int .i64 c,.int .i64 now,.int .i64 seq,.slice A n k] 24)).cell? ⟨w.heap.size,0,none⟩=some (.int .i64 v)∧(w.alloc (.cells #[.int .i64 v,.int .i64 q,.int .i64 c,.int .i64 now,.int .i64 seq,.slice A n k] 24)).cell? ⟨w.heap.size,1,none⟩=some (.int .i64 q)∧(w.alloc (.cells #[.int .i64 v,.int .i64 q,.int .i64 c,.int .i64 now,.int .i64 seq,.slice A n k] 24)).cell? ⟨w.heap.size,2,none⟩=some (.int .i64 c)∧(w.alloc (.cells #[.int .i64 v,.int .i64 q,.int .i64 c,.int .i64 now,.int .i64 seq,.slice A n k] 24)).cell? ⟨w.heap.size,3,none⟩=some (.int .i64 now)∧(w.alloc (.cells #[.int .i64 v,.int .i64 q,.int .i64 c,.int .i64 now,.int .i64 seq,.slice A n k] 24)).cell? ⟨w.heap.size,4,none⟩=some (.int .i64 seq)∧(w.alloc (.cells #[.int .i64 v,.int .i64 q,.int .i64 c,.int .i64 now,.int .i64 seq,.slice A n k] 24)).cell? ⟨w.heap.size,5,none⟩=some (.slice A n k)):=Lib.hid ⟨(Up.refl w).alloc _ _,by simp [go_sem],by simp [go_sem],by simp [go_sem],by simp [go_sem],by simp [go_sem],by simp [go_sem]⟩
  unfold stPE
  clear hS
  cases hv:stP v q c now seq X with
  | false =>
    rw [hv] at KV
    rw [if_neg Bool.false_ne_true]
    clear hv
    go_enter Tryz.func13,Tryz.ntmps13
    go_wp2_with fail
    refine wp_region_held_drew (S:=fun w'=>Up w w'∧w'.cell? ⟨w.heap.size,0,none⟩=some (.int .i64 v)∧w'.cell? ⟨w.heap.size,1,none⟩=some (.int .i64 q)∧w'.cell? ⟨w.heap.size,2,none⟩=some (.int .i64 c)∧w'.cell? ⟨w.heap.size,3,none⟩=some (.int .i64 now)∧w'.cell? ⟨w.heap.size,4,none⟩=some (.int .i64 seq)∧w'.cell? ⟨w.heap.size,5,none⟩=some (.slice A n k)) (by kernel_rfl) ?hB1 (fun hHeld=>?_)
    case hB1=>(first | (with_reducible assumption) | (with_reducible exact keepL6 (Lib.hid (Up.refl _).drew) HSS.out) | (with_reducible exact HX2.out) | (with_reducible exact HX3.out) | (with_reducible exact HX4.out))
    refine takeT 0 rfl (by assumption) ?_
    (try simp only [Act.put,stpA,stpB,stpC])
    refine takeT 2 rfl (by assumption) ?_
    (try simp only [Act.put,stpA,stpB,stpC])
    refine takeT 3 rfl (by assumption) ?_
    (try simp only [Act.put,stpA,stpB,stpC])
    refine wpAnyH_ready (rs:=[1]) (by kernel_rfl) (by simp) ?_
    refine AllReadyH.cons (o:=⟨_,_,_,_,_,_⟩) rfl (fun K hK=>?_) AllReadyH.nil
    go_simp
    (go_at_call 27;(with_reducible refine (KT.out _).mono ?_);rintro e w2 ⟨rfl,hu⟩;have HU2:=Lib.hid hu;have HX2:=Lib.hid (keepL6 HU2 hHeld);clear hu)
    (try go_wp2_with fail)
    refine hK.out _ _ ?hB5 (fun hHeld=>?_)
    case hB5=>(first | (with_reducible assumption) | (with_reducible exact keepL6 (Lib.hid (Up.refl _).drew) HSS.out) | (with_reducible exact HX2.out) | (with_reducible exact HX3.out) | (with_reducible exact HX4.out))
    clear hK K
    (try simp only [Act.put,stpA,stpB,stpC])
    refine wpAnyH_ready (rs:=[4]) (by kernel_rfl) (by simp) ?_
    refine AllReadyH.cons (o:=⟨_,_,_,_,_,_⟩) rfl (fun K hK=>?_) AllReadyH.nil
    go_simp
    (go_at_call 32;(with_reducible refine (KN.out _).mono ?_);rintro e w3 ⟨xb,rfl,hu,cb⟩;have HU3:=Lib.hid hu;have HX3:=Lib.hid (keepL6 HU3 hHeld);have CB:=Lib.hid cb;clear hu cb)
    (try go_wp2_with fail)
    refine hK.out _ _ ?hB6 (fun hHeld=>?_)
    case hB6=>(first | (with_reducible assumption) | (with_reducible exact keepL6 (Lib.hid (Up.refl _).drew) HSS.out) | (with_reducible exact HX2.out) | (with_reducible exact HX3.out) | (with_reducible exact HX4.out))
    clear hK K
    (try simp only [Act.put,stpA,stpB,stpC])
    refine wpAnyH_ready (rs:=[5]) (by kernel_rfl) (by simp) ?_
    refine AllReadyH.cons (o:=⟨_,_,_,_,_,_⟩) rfl (fun K hK=>?_) AllReadyH.nil
    go_simp
    (go_at_call 42;(with_reducible refine (KV.out xb _ hHeld.1 CB.out).mono ?_);rintro e w4 ⟨rfl,hu⟩;have HU4:=Lib.hid hu;have HX4:=Lib.hid (keepL6 HU4 hHeld);clear hu)
    (try go_wp2_with fail)
    refine hK.out _ _ ?hB7 (fun hHeld=>?_)
    case hB7=>(first | (with_reducible assumption) | (with_reducible exact keepL6 (Lib.hid (Up.refl _).drew) HSS.out) | (with_reducible exact HX2.out) | (with_reducible exact HX3.out) | (with_reducible exact HX4.out))
    clear hK K
    (try simp only [Act.put,stpA,stpB,stpC])
    refine takeT 6 rfl (by assumption) ?_
    (try simp only [Act.put,stpA,stpB,stpC])
    refine wpAnyH_done (by kernel_rfl) ?_ _
    clear hHeld
    go_wp2_with fail
    go_ret
    exact ⟨rfl,HX4.out.1⟩
  | true =>
    rw [hv] at KV
    rw [if_pos rfl]
    clear hv
    go_enter Tryz.func13,Tryz.ntmps13
    go_wp2_with fail
    refine wp_region_held_drew (S:=fun w'=>Up w w'∧w'.cell? ⟨w.heap.size,0,none⟩=some (.int .i64 v)∧w'.cell? ⟨w.heap.size,1,none⟩=some (.int .i64 q)∧w'.cell? ⟨w.heap.size,2,none⟩=some (.int .i64 c)∧w'.cell? ⟨w.heap.size,3,none⟩=some (.int .i64 now)∧w'.cell? ⟨w.heap.size,4,none⟩=some (.int .i64 seq)∧w'.cell? ⟨w.heap.size,5,none⟩=some (.slice A n k)) (by kernel_rfl) ?hB9 (fun hHeld=>?_)
    case hB9=>(first | (with_reducible assumption) | (with_reducible exact keepL6 (Lib.hid (Up.refl _).drew) HSS.out) | (with_reducible exact HX2.out) | (with_reducible exact HX3.out) | (with_reducible exact HX4.out))
    refine takeT 0 rfl (by assumption) ?_
    (try simp only [Act.put,stpA,stpB,stpC])
    refine takeT 2 rfl (by assumption) ?_
    (try simp only [Act.put,stpA,stpB,stpC])
    refine takeT 3 rfl (by assumption) ?_
    (try simp only [Act.put,stpA,stpB,stpC])
    refine wpAnyH_ready (rs:=[1]) (by kernel_rfl) (by simp) ?_
    refine AllReadyH.cons (o:=⟨_,_,_,_,_,_⟩) rfl (fun K hK=>?_) AllReadyH.nil
    go_simp
    (go_at_call 27;(with_reducible refine (KT.out _).mono ?_);rintro e w2 ⟨rfl,hu⟩;have HU2:=Lib.hid hu;have HX2:=Lib.hid (keepL6 HU2 hHeld);clear hu)
    (try go_wp2_with fail)
    refine hK.out _ _ ?hB13 (fun hHeld=>?_)
    case hB13=>(first | (with_reducible assumption) | (with_reducible exact keepL6 (Lib.hid (Up.refl _).drew) HSS.out) | (with_reducible exact HX2.out) | (with_reducible exact HX3.out) | (with_reducible exact HX4.out))
    clear hK K
    (try simp only [Act.put,stpA,stpB,stpC])
    refine wpAnyH_ready (rs:=[4]) (by kernel_rfl) (by simp) ?_
    refine AllReadyH.cons (o:=⟨_,_,_,_,_,_⟩) rfl (fun K hK=>?_) AllReadyH.nil
    go_simp
    (go_at_call 32;(with_reducible refine (KN.out _).mono ?_);rintro e w3 ⟨xb,rfl,hu,cb⟩;have HU3:=Lib.hid hu;have HX3:=Lib.hid (keepL6 HU3 hHeld);have CB:=Lib.hid cb;clear hu cb)
    (try go_wp2_with fail)
    refine hK.out _ _ ?hB14 (fun hHeld=>?_)
    case hB14=>(first | (with_reducible assumption) | (with_reducible exact keepL6 (Lib.hid (Up.refl _).drew) HSS.out) | (with_reducible exact HX2.out) | (with_reducible exact HX3.out) | (with_reducible exact HX4.out))
    clear hK K
    (try simp only [Act.put,stpA,stpB,stpC])
    refine wpAnyH_ready (rs:=[5]) (by kernel_rfl) (by simp) ?_
    refine AllReadyH.cons (o:=⟨_,_,_,_,_,_⟩) rfl (fun K hK=>?_) AllReadyH.nil
    go_simp
    (go_at_call 42;(with_reducible refine (KV.out xb _ hHeld.1 CB.out).mono ?_);rintro e w4 ⟨rfl,hu⟩;have HU4:=Lib.hid hu;have HX4:=Lib.hid (keepL6 HU4 hHeld);clear hu)
    (try go_wp2_with fail)
    refine hK.out _ _ ?hB15 (fun hHeld=>?_)
    case hB15=>(first | (with_reducible assumption) | (with_reducible exact keepL6 (Lib.hid (Up.refl _).drew) HSS.out) | (with_reducible exact HX2.out) | (with_reducible exact HX3.out) | (with_reducible exact HX4.out))
    clear hK K
    (try simp only [Act.put,stpA,stpB,stpC])
    refine takeT 6 rfl (by assumption) ?_
    (try simp only [Act.put,stpA,stpB,stpC])
    refine wpAnyH_done (by kernel_rfl) ?_ _
    clear hHeld
    go_wp2_with fail
    go_ret
    exact ⟨rfl,HX4.out.1⟩

set_option maxHeartbeats 4000000 in
set_option maxRecDepth 100000 in
theorem eqR14 (a0 a1:Int) (w:World):(Op.equalIn 10000 31 (.agg #[.int .i64 a0,.int .i64 a1]) (.agg #[.int .i64 a0,.int .i64 a1])).run Tryz.prog w=.ok true w:=by
  have qu:=Tryz.underlying2
  have qa:=Tryz.isAgg2
  have qz:=Tryz.sizeOf2
  rw [show (10000:Nat)=9999+1 from rfl,Op.equalIn]
  simp only [Sem.run_bind,run_underlying Tryz.underlying31,Result.andThen_ok]
  go_simp
theorem ofS_awake:ofS ⟨0,0,3,9,41,1,6⟩=gotR 14 1 true:=by
  unfold ofS
  rw [if_pos (by decide),show quoN (spM ⟨0,0,3,9,41,1,6⟩) (Mrk.n ⟨0,0,3,9,41,1,6⟩)=14 by decide +kernel,show quoD (spM ⟨0,0,3,9,41,1,6⟩) (Mrk.n ⟨0,0,3,9,41,1,6⟩)=1 by decide +kernel]
set_option maxHeartbeats 4000000 in
set_option maxRecDepth 100000 in
theorem awake14_up (w:World):Calls Tryz.prog 6 #[] w fun e w'=>e=.returned (.bool true)∧Up w w':=by
  have K1:=Lib.hid (of14_up ⟨0,0,3,9,41,1,6⟩)
  rw [ofS_awake] at K1
  simp only [gotR] at K1
  have qe:=eqR14 14 1
  go_enter Tryz.func6,Tryz.ntmps6
  go_wp2_with (go_at_call 25;(with_reducible refine (K1.out _).mono ?_);rintro e w1 ⟨rfl,hu⟩;have HU1:=Lib.hid hu;clear hu)
  go_ret
  exact ⟨rfl,HU1.out.alloc _ _⟩
end Go.Proofs.YtafkoddgefcpnaaGreat

namespace Go.Proofs.YtafkoddgefcpnaaGreat
open Go.RowKit
set_option linter.unusedVariables false

theorem stP_may {v q c now seq:Int} {X:List Mrk} (h:stP v q c now seq X=true):mayC v q c now=true:=(stP_true h).1
theorem stP_tick {v q c now seq:Int} {X:List Mrk} (h:stP v q c now seq X=true):tickB now=true:=(mayB_true (mayC_true (stP_may h)).1).1
set_option maxHeartbeats 4000000 in
set_option maxRecDepth 100000 in
theorem adv14_good (v q c now seq td:Int) (n k:Nat) (A:Option Addr) (X:List Mrk) (hn:n≤50000) (hk:n≤k) (hv:stP v q c now seq X=true) (h1:now≤td) (h2:td≤16777216) (w:World) (hS:SG cM w A n X) :
    Calls Tryz.prog 7 #[.agg #[.int .i64 v,.int .i64 q,.int .i64 c,.int .i64 now,.int .i64 seq,.slice A n k],.int .i64 td] w fun e w'=>∃ A' n' k',e=.returned (.tuple #[.agg #[.int .i64 v,.int .i64 q,.int .i64 c,.int .i64 td,.int .i64 seq,.slice A' n' k'],.int .i64 0])∧n'≤n∧n'≤k'∧Nw w A'∧Up w w'∧SG cM w' A' n' (drM td v X):=by
  have KV:=Lib.hid (fun W (h:SG cM W A n X)=>validate14_up v q c now seq n k A X hn W h)
  rw [stPE_yes hv] at KV
  have HS:=Lib.hid hS
  have KT:=Lib.hid (toSmooth_up v q c now seq n k A)
  have KA:=Lib.hid (fun W (hu:Up w W)=>madv_good 4 v q c now seq td n k A X hn hk (stP_tick hv) h1 h2 W (hS.up hu))
  have KF:=Lib.hid (fun A2 n2 k2=>fromSmooth_up 4 v q c td seq n2 k2 A2)
  clear hS hv h1 h2
  generalize drM td v X=Z at *
  go_enter Tryz.func7,Tryz.ntmps7
  go_wp2_with (first
    | (go_at_call 13;(with_reducible refine (KV.out _ (HS.out.up (((Up.refl w).alloc _ _).alloc _ _))).mono ?_);rintro e w1 ⟨rfl,hu⟩;have hv:=(((Up.refl w).alloc #[.int .i64 v,.int .i64 q,.int .i64 c,.int .i64 now,.int .i64 seq,.slice A n k] 24).alloc #[.int .i64 0,.int .i64 0,.int .i64 0,.int .i64 0,.int .i64 0,.slice none 0 0] 24).trans hu;have HV1:=Lib.hid hv;have HU1:=Lib.hid ((Up.refl w).trans hv);have a_1_0:=hu.keep (w.heap.size) 0 (.int .i64 v) (by simp [go_sem]);have a_1_1:=hu.keep (w.heap.size) 1 (.int .i64 q) (by simp [go_sem]);have a_1_2:=hu.keep (w.heap.size) 2 (.int .i64 c) (by simp [go_sem]);have a_1_3:=hu.keep (w.heap.size) 3 (.int .i64 now) (by simp [go_sem]);have a_1_4:=hu.keep (w.heap.size) 4 (.int .i64 seq) (by simp [go_sem]);have a_1_5:=hu.keep (w.heap.size) 5 (.slice A n k) (by simp [go_sem]);have r_1_0:=hu.keep (w.heap.size+1) 0 (.int .i64 0) (by simp [go_sem]);have r_1_1:=hu.keep (w.heap.size+1) 1 (.int .i64 0) (by simp [go_sem]);have r_1_2:=hu.keep (w.heap.size+1) 2 (.int .i64 0) (by simp [go_sem]);have r_1_3:=hu.keep (w.heap.size+1) 3 (.int .i64 0) (by simp [go_sem]);have r_1_4:=hu.keep (w.heap.size+1) 4 (.int .i64 0) (by simp [go_sem]);have r_1_5:=hu.keep (w.heap.size+1) 5 (.slice none 0 0) (by simp [go_sem]);have la1:=World.block_lt_of_cell? _ _ a_1_0;have lr1:=World.block_lt_of_cell? _ _ r_1_0;clear hu hv )
    | (go_at_call 27;(with_reducible refine (KT.out _).mono ?_);rintro e w2 ⟨rfl,hu⟩;have hv:=(Up.refl w1).trans hu;have HV2:=Lib.hid hv;have HU2:=Lib.hid (HU1.out.trans hv);have a_2_0:=hv.keep _ _ _ a_1_0;have a_2_1:=hv.keep _ _ _ a_1_1;have a_2_2:=hv.keep _ _ _ a_1_2;have a_2_3:=hv.keep _ _ _ a_1_3;have a_2_4:=hv.keep _ _ _ a_1_4;have a_2_5:=hv.keep _ _ _ a_1_5;have r_2_0:=hv.keep _ _ _ r_1_0;have r_2_1:=hv.keep _ _ _ r_1_1;have r_2_2:=hv.keep _ _ _ r_1_2;have r_2_3:=hv.keep _ _ _ r_1_3;have r_2_4:=hv.keep _ _ _ r_1_4;have r_2_5:=hv.keep _ _ _ r_1_5;have la2:=World.block_lt_of_cell? _ _ a_2_0;have lr2:=World.block_lt_of_cell? _ _ r_2_0;clear hu hv la1 a_1_0 a_1_1 a_1_2 a_1_3 a_1_4 a_1_5 lr1 r_1_0 r_1_1 r_1_2 r_1_3 r_1_4 r_1_5)
    | (go_at_call 26;(with_reducible refine (KA.out _ HU2.out).mono ?_);rintro e w3 ⟨A2,n2,k2,rfl,hn2,hk2,hnw,hu,hM⟩;have hv:=(Up.refl w2).trans hu;have HV3:=Lib.hid hv;have HU3:=Lib.hid (HU2.out.trans hv);have a_3_0:=hv.keep _ _ _ a_2_0;have a_3_1:=hv.keep _ _ _ a_2_1;have a_3_2:=hv.keep _ _ _ a_2_2;have a_3_3:=hv.keep _ _ _ a_2_3;have a_3_4:=hv.keep _ _ _ a_2_4;have a_3_5:=hv.keep _ _ _ a_2_5;have r_3_0:=hv.keep _ _ _ r_2_0;have r_3_1:=hv.keep _ _ _ r_2_1;have r_3_2:=hv.keep _ _ _ r_2_2;have r_3_3:=hv.keep _ _ _ r_2_3;have r_3_4:=hv.keep _ _ _ r_2_4;have r_3_5:=hv.keep _ _ _ r_2_5;have la3:=World.block_lt_of_cell? _ _ a_3_0;have lr3:=World.block_lt_of_cell? _ _ r_3_0;have HM:=Lib.hid hM;have HNW:=Lib.hid hnw;have hsz:=HU2.out.size;have hls:=lr2;clear hM hnw;clear hu hv la2 a_2_0 a_2_1 a_2_2 a_2_3 a_2_4 a_2_5 lr2 r_2_0 r_2_1 r_2_2 r_2_3 r_2_4 r_2_5)
    | (go_at_call 28;(with_reducible refine (KF.out _ _ _ _).mono ?_);rintro e w4 ⟨rfl,hu⟩;have hv:=((Up.refl w3).alloc #[.int .i64 4,.int .i64 v,.int .i64 q,.int .i64 c,.int .i64 td,.int .i64 seq,.slice A2 n2 k2] 58).trans hu;have HV4:=Lib.hid hv;have HU4:=Lib.hid (HU3.out.trans hv);have a_4_0:=hv.keep _ _ _ a_3_0;have a_4_1:=hv.keep _ _ _ a_3_1;have a_4_2:=hv.keep _ _ _ a_3_2;have a_4_3:=hv.keep _ _ _ a_3_3;have a_4_4:=hv.keep _ _ _ a_3_4;have a_4_5:=hv.keep _ _ _ a_3_5;have r_4_0:=hv.keep _ _ _ r_3_0;have r_4_1:=hv.keep _ _ _ r_3_1;have r_4_2:=hv.keep _ _ _ r_3_2;have r_4_3:=hv.keep _ _ _ r_3_3;have r_4_4:=hv.keep _ _ _ r_3_4;have r_4_5:=hv.keep _ _ _ r_3_5;have x_4_0:=hu.keep (w3.heap.size) 0 (.int .i64 4) (by simp [go_sem]);have x_4_1:=hu.keep (w3.heap.size) 1 (.int .i64 v) (by simp [go_sem]);have x_4_2:=hu.keep (w3.heap.size) 2 (.int .i64 q) (by simp [go_sem]);have x_4_3:=hu.keep (w3.heap.size) 3 (.int .i64 c) (by simp [go_sem]);have x_4_4:=hu.keep (w3.heap.size) 4 (.int .i64 td) (by simp [go_sem]);have x_4_5:=hu.keep (w3.heap.size) 5 (.int .i64 seq) (by simp [go_sem]);have x_4_6:=hu.keep (w3.heap.size) 6 (.slice A2 n2 k2) (by simp [go_sem]);have la4:=World.block_lt_of_cell? _ _ a_4_0;have lr4:=World.block_lt_of_cell? _ _ r_4_0;have lx4:=World.block_lt_of_cell? _ _ x_4_0;have z0:=HU4.out.ownGe (g:=w.heap.size+1) (by omega) 0;have z1:=HU4.out.ownGe (g:=w.heap.size+1) (by omega) 1;have z2:=HU4.out.ownGe (g:=w.heap.size+1) (by omega) 2;have z3:=HU4.out.ownGe (g:=w.heap.size+1) (by omega) 3;have z4:=HU4.out.ownGe (g:=w.heap.size+1) (by omega) 4;have z5:=HU4.out.ownGe (g:=w.heap.size+1) (by omega) 5;clear hu hv la3 a_3_0 a_3_1 a_3_2 a_3_3 a_3_4 a_3_5 lr3 r_3_0 r_3_1 r_3_2 r_3_3 r_3_4 r_3_5))
  refine bodyPost_ret (v:=.tuple #[.agg #[.int .i64 v,.int .i64 q,.int .i64 c,.int .i64 td,.int .i64 seq,.slice A2 n2 k2],.int .i64 0]) (by simp [results,Tryz.results7,go_sem,r_4_0,r_4_1,r_4_2,r_4_3,r_4_4,r_4_5]) rfl ⟨A2,n2,k2,rfl,hn2,hk2,fun b_ o_ h_=>Nat.le_trans hsz (HNW.out b_ o_ h_),?_,?_⟩
  · exact HU4.out.setP6 (by omega)
  · exact (HM.out.up HV4.out).offP6 (fun b_ o_ h_=>by have:=HNW.out b_ o_ h_;omega) _ _ _ _ _ _

end Go.Proofs.YtafkoddgefcpnaaGreat

namespace Go.Proofs.YtafkoddgefcpnaaGreat
open Go.RowKit
set_option linter.unusedVariables false

theorem set7L6 {w w1:World} {p pa:Nat} {x0 x1 x2 x3 x4 x5 v0 v1 v2 v3 v4 v5 v6:Value} (h:Up w w1∧w1.cell? ⟨pa,0,none⟩=some x0∧w1.cell? ⟨pa,1,none⟩=some x1∧w1.cell? ⟨pa,2,none⟩=some x2∧w1.cell? ⟨pa,3,none⟩=some x3∧w1.cell? ⟨pa,4,none⟩=some x4∧w1.cell? ⟨pa,5,none⟩=some x5) (hp:w.heap.size≤p) (ha:p ≠ pa):Up w (((((((w1.setCell ⟨p,0,none⟩ (v0)).setCell ⟨p,1,none⟩ (v1)).setCell ⟨p,2,none⟩ (v2)).setCell ⟨p,3,none⟩ (v3)).setCell ⟨p,4,none⟩ (v4)).setCell ⟨p,5,none⟩ (v5)).setCell ⟨p,6,none⟩ (v6))∧(((((((w1.setCell ⟨p,0,none⟩ (v0)).setCell ⟨p,1,none⟩ (v1)).setCell ⟨p,2,none⟩ (v2)).setCell ⟨p,3,none⟩ (v3)).setCell ⟨p,4,none⟩ (v4)).setCell ⟨p,5,none⟩ (v5)).setCell ⟨p,6,none⟩ (v6)).cell? ⟨pa,0,none⟩=some x0∧(((((((w1.setCell ⟨p,0,none⟩ (v0)).setCell ⟨p,1,none⟩ (v1)).setCell ⟨p,2,none⟩ (v2)).setCell ⟨p,3,none⟩ (v3)).setCell ⟨p,4,none⟩ (v4)).setCell ⟨p,5,none⟩ (v5)).setCell ⟨p,6,none⟩ (v6)).cell? ⟨pa,1,none⟩=some x1∧(((((((w1.setCell ⟨p,0,none⟩ (v0)).setCell ⟨p,1,none⟩ (v1)).setCell ⟨p,2,none⟩ (v2)).setCell ⟨p,3,none⟩ (v3)).setCell ⟨p,4,none⟩ (v4)).setCell ⟨p,5,none⟩ (v5)).setCell ⟨p,6,none⟩ (v6)).cell? ⟨pa,2,none⟩=some x2∧(((((((w1.setCell ⟨p,0,none⟩ (v0)).setCell ⟨p,1,none⟩ (v1)).setCell ⟨p,2,none⟩ (v2)).setCell ⟨p,3,none⟩ (v3)).setCell ⟨p,4,none⟩ (v4)).setCell ⟨p,5,none⟩ (v5)).setCell ⟨p,6,none⟩ (v6)).cell? ⟨pa,3,none⟩=some x3∧(((((((w1.setCell ⟨p,0,none⟩ (v0)).setCell ⟨p,1,none⟩ (v1)).setCell ⟨p,2,none⟩ (v2)).setCell ⟨p,3,none⟩ (v3)).setCell ⟨p,4,none⟩ (v4)).setCell ⟨p,5,none⟩ (v5)).setCell ⟨p,6,none⟩ (v6)).cell? ⟨pa,4,none⟩=some x4∧(((((((w1.setCell ⟨p,0,none⟩ (v0)).setCell ⟨p,1,none⟩ (v1)).setCell ⟨p,2,none⟩ (v2)).setCell ⟨p,3,none⟩ (v3)).setCell ⟨p,4,none⟩ (v4)).setCell ⟨p,5,none⟩ (v5)).setCell ⟨p,6,none⟩ (v6)).cell? ⟨pa,5,none⟩=some x5 :=
  ⟨h.1.set7 hp,far7 h.2.1 ha,far7 h.2.2.1 ha,far7 h.2.2.2.1 ha,far7 h.2.2.2.2.1 ha,far7 h.2.2.2.2.2.1 ha,far7 h.2.2.2.2.2.2 ha⟩
set_option maxHeartbeats 4000000 in
set_option maxRecDepth 100000 in
theorem add14_full (v q c now seq d:Int) (n k:Nat) (A:Option Addr) (X:List Mrk) (hn:n≤50000) (hk:n≤k) (hv:stP v q c now seq X=true) (hd:valG 4 d) (hf:fuM c seq X=true) (w:World) (hS:SG cM w A n X) :
    Calls Tryz.prog 9 #[.agg #[.int .i64 v,.int .i64 q,.int .i64 c,.int .i64 now,.int .i64 seq,.slice A n k],.int .i64 d] w fun e w'=>e=.returned (.tuple #[.agg #[.int .i64 0,.int .i64 0,.int .i64 0,.int .i64 0,.int .i64 0,.slice none 0 0],.int .i64 5])∧Up w w':=by
  have KV:=Lib.hid (fun W (h:SG cM W A n X)=>validate14_up v q c now seq n k A X hn W h)
  rw [stPE_yes hv] at KV
  have HS:=Lib.hid hS
  have KT:=Lib.hid (toSmooth_up v q c now seq n k A)
  have KN:=Lib.hid (closeness_up q)
  have KA:=Lib.hid (fun (b1:Nat) W (hu:Up w W) (hb:W.cell? ⟨b1,0,none⟩=some (.int .i64 q))=>maddS_full b1 4 v q c now seq d n k A X hn (by omega) hd hf W (hS.up hu))
  have KF:=Lib.hid (fromSmooth_up 0 0 0 0 0 0 0 0 none)
  clear hS hv hd hf
  go_enter Tryz.func9,Tryz.ntmps9
  go_upto_region 4 with (go_at_call 13;(with_reducible refine (KV.out _ (HS.out.up (((Up.refl w).alloc _ _).alloc _ _))).mono ?_);rintro e w1 ⟨rfl,hu⟩;have hv:=(((Up.refl w).alloc #[.int .i64 v,.int .i64 q,.int .i64 c,.int .i64 now,.int .i64 seq,.slice A n k] 24).alloc #[.int .i64 0,.int .i64 0,.int .i64 0,.int .i64 0,.int .i64 0,.slice none 0 0] 24).trans hu;have HV1:=Lib.hid hv;have HU1:=Lib.hid ((Up.refl w).trans hv);have a_1_0:=hu.keep (w.heap.size) 0 (.int .i64 v) (by simp [go_sem]);have a_1_1:=hu.keep (w.heap.size) 1 (.int .i64 q) (by simp [go_sem]);have a_1_2:=hu.keep (w.heap.size) 2 (.int .i64 c) (by simp [go_sem]);have a_1_3:=hu.keep (w.heap.size) 3 (.int .i64 now) (by simp [go_sem]);have a_1_4:=hu.keep (w.heap.size) 4 (.int .i64 seq) (by simp [go_sem]);have a_1_5:=hu.keep (w.heap.size) 5 (.slice A n k) (by simp [go_sem]);have r_1_0:=hu.keep (w.heap.size+1) 0 (.int .i64 0) (by simp [go_sem]);have r_1_1:=hu.keep (w.heap.size+1) 1 (.int .i64 0) (by simp [go_sem]);have r_1_2:=hu.keep (w.heap.size+1) 2 (.int .i64 0) (by simp [go_sem]);have r_1_3:=hu.keep (w.heap.size+1) 3 (.int .i64 0) (by simp [go_sem]);have r_1_4:=hu.keep (w.heap.size+1) 4 (.int .i64 0) (by simp [go_sem]);have r_1_5:=hu.keep (w.heap.size+1) 5 (.slice none 0 0) (by simp [go_sem]);have la1:=World.block_lt_of_cell? _ _ a_1_0;have lr1:=World.block_lt_of_cell? _ _ r_1_0;clear hu hv )
  have HSS:Hid (Up w w1∧w1.cell? ⟨w.heap.size,0,none⟩=some (.int .i64 v)∧w1.cell? ⟨w.heap.size,1,none⟩=some (.int .i64 q)∧w1.cell? ⟨w.heap.size,2,none⟩=some (.int .i64 c)∧w1.cell? ⟨w.heap.size,3,none⟩=some (.int .i64 now)∧w1.cell? ⟨w.heap.size,4,none⟩=some (.int .i64 seq)∧w1.cell? ⟨w.heap.size,5,none⟩=some (.slice A n k)):=Lib.hid ⟨HU1.out,a_1_0,a_1_1,a_1_2,a_1_3,a_1_4,a_1_5⟩
  have HW:=Lib.hid HU1.out.drew
  clear a_1_0 a_1_1 a_1_2 a_1_3 a_1_4 a_1_5
  go_wp2_with fail
  refine wp_region_held_drew (S:=fun w'=>Up w w'∧w'.cell? ⟨w.heap.size,0,none⟩=some (.int .i64 v)∧w'.cell? ⟨w.heap.size,1,none⟩=some (.int .i64 q)∧w'.cell? ⟨w.heap.size,2,none⟩=some (.int .i64 c)∧w'.cell? ⟨w.heap.size,3,none⟩=some (.int .i64 now)∧w'.cell? ⟨w.heap.size,4,none⟩=some (.int .i64 seq)∧w'.cell? ⟨w.heap.size,5,none⟩=some (.slice A n k)) (by kernel_rfl) ?hB39 (fun hHeld=>?_)
  case hB39=>(with_reducible exact keepL6 (Lib.hid (Up.refl _).drew) HSS.out)
  refine takeT 0 rfl (by assumption) ?_
  (try simp only [Act.put,stpA,stpB,stpC])
  refine takeT 2 rfl (by assumption) ?_
  (try simp only [Act.put,stpA,stpB,stpC])
  refine takeT 3 rfl (by assumption) ?_
  (try simp only [Act.put,stpA,stpB,stpC])
  refine takeT 4 rfl (by assumption) ?_
  (try simp only [Act.put,stpA,stpB,stpC])
  refine wpAnyH_ready (rs:=[1,10]) (by kernel_rfl) (by simp) ?_
  refine AllReadyH.cons (o:=⟨_,_,_,_,_,_⟩) rfl (fun K hK=>?_) (AllReadyH.cons (o:=⟨_,_,_,_,_,_⟩) rfl (fun K hK=>?_) (AllReadyH.nil))
  · go_simp
    (go_at_call 27;(with_reducible refine (KT.out _).mono ?_);rintro e w2 ⟨rfl,hu⟩;have HW:=Lib.hid (HW.out.trans hu);have HX:=Lib.hid (keepL6 (Lib.hid hu) hHeld);have r_1_0:=hu.keep _ _ _ r_1_0;have r_1_1:=hu.keep _ _ _ r_1_1;have r_1_2:=hu.keep _ _ _ r_1_2;have r_1_3:=hu.keep _ _ _ r_1_3;have r_1_4:=hu.keep _ _ _ r_1_4;have r_1_5:=hu.keep _ _ _ r_1_5;clear hu)
    (try go_wp2_with fail)
    refine hK.out _ _ ?hB44 (fun hHeld=>?_)
    case hB44=>(with_reducible exact HX.out)
    clear hK K
    (try simp only [Act.put,stpA,stpB,stpC])
    refine wpAnyH_ready (rs:=[5,10]) (by kernel_rfl) (by simp) ?_
    refine AllReadyH.cons (o:=⟨_,_,_,_,_,_⟩) rfl (fun K hK=>?_) (AllReadyH.cons (o:=⟨_,_,_,_,_,_⟩) rfl (fun K hK=>?_) (AllReadyH.nil))
    · go_simp
      (go_at_call 32;(with_reducible refine (KN.out _).mono ?_);rintro e w3 ⟨xb,rfl,hu,cb⟩;have HW:=Lib.hid (HW.out.trans hu);have HX:=Lib.hid (keepL6 (Lib.hid hu) hHeld);have r_1_0:=hu.keep _ _ _ r_1_0;have r_1_1:=hu.keep _ _ _ r_1_1;have r_1_2:=hu.keep _ _ _ r_1_2;have r_1_3:=hu.keep _ _ _ r_1_3;have r_1_4:=hu.keep _ _ _ r_1_4;have r_1_5:=hu.keep _ _ _ r_1_5;have CB:=Lib.hid cb;clear cb;clear hu)
      (try go_wp2_with fail)
      refine hK.out _ _ ?hB45 (fun hHeld=>?_)
      case hB45=>(with_reducible exact HX.out)
      clear hK K
      (try simp only [Act.put,stpA,stpB,stpC])
      refine wpAnyH_ready (rs:=[6,10]) (by kernel_rfl) (by simp) ?_
      refine AllReadyH.cons (o:=⟨_,_,_,_,_,_⟩) rfl (fun K hK=>?_) (AllReadyH.cons (o:=⟨_,_,_,_,_,_⟩) rfl (fun K hK=>?_) (AllReadyH.nil))
      · go_simp
        (go_at_call 31;(with_reducible refine (KA.out xb _ hHeld.1 CB.out).mono ?_);have hlr_:=World.block_lt_of_cell? _ _ r_1_0;have hsz_:=hHeld.1.size;rintro e w4 ⟨rfl,hu⟩;have HW:=Lib.hid (HW.out.trans hu);have HX:=Lib.hid (keepL6 (Lib.hid hu) hHeld);have r_1_0:=hu.keep _ _ _ r_1_0;have r_1_1:=hu.keep _ _ _ r_1_1;have r_1_2:=hu.keep _ _ _ r_1_2;have r_1_3:=hu.keep _ _ _ r_1_3;have r_1_4:=hu.keep _ _ _ r_1_4;have r_1_5:=hu.keep _ _ _ r_1_5;clear hu)
        (try go_wp2_with fail)
        refine hK.out _ _ ?hB46 (fun hHeld=>?_)
        case hB46=>(with_reducible exact HX.out)
        clear hK K
        (try simp only [Act.put,stpA,stpB,stpC])
        refine takeT 7 rfl (by assumption) ?_
        (try simp only [Act.put,stpA,stpB,stpC])
        refine takeT 8 rfl (by assumption) ?_
        (try simp only [Act.put,stpA,stpB,stpC])
        refine takeT 9 rfl (by assumption) ?_
        (try simp only [Act.put,stpA,stpB,stpC])
        refine wpAnyH_ready (rs:=[10]) (by kernel_rfl) (by simp) ?_
        refine AllReadyH.cons (o:=⟨_,_,_,_,_,_⟩) rfl (fun K hK=>?_) (AllReadyH.nil)
        go_simp
        refine hK.out _ _ ?hB50 (fun hHeld=>?_)
        case hB50=>(with_reducible exact keepL6 (Lib.hid ((Up.refl _).alloc _ _)) HX.out)
        clear hK K
        (try simp only [Act.put,stpA,stpB,stpC])
        refine wpAnyH_ready (rs:=[11]) (by kernel_rfl) (by simp) ?_
        refine AllReadyH.cons (o:=⟨_,_,_,_,_,_⟩) rfl (fun K hK=>?_) (AllReadyH.nil)
        go_simp
        refine hK.out _ _ ?hB51 (fun hHeld=>?_)
        case hB51=>(with_reducible exact keepL6 (Lib.hid ((Up.refl _).alloc _ _)) HX.out)
        clear hK K
        (try simp only [Act.put,stpA,stpB,stpC])
        refine takeT 12 rfl (by assumption) ?_
        (try simp only [Act.put,stpA,stpB,stpC])
        refine wpAnyH_done (by kernel_rfl) ?_ _
        have hlt_:w.heap.size+1<w4.heap.size:=World.block_lt_of_cell? _ _ r_1_0
        obtain ⟨wa,hwa⟩:∃ z,z=w4.alloc (.cells #[.int .i64 0,.int .i64 0,.int .i64 0,.int .i64 0,.int .i64 0,.int .i64 0,.slice none 0 0] 58):=⟨_,rfl⟩
        rw [← hwa]
        have hv:Up w4 wa:=by rw [hwa];exact (Up.refl _).alloc _ _
        have g0:wa.cell? ⟨w4.heap.size,0,none⟩=some (.int .i64 0):=by rw [hwa];simp [go_sem]
        have g1:wa.cell? ⟨w4.heap.size,1,none⟩=some (.int .i64 0):=by rw [hwa];simp [go_sem]
        have g2:wa.cell? ⟨w4.heap.size,2,none⟩=some (.int .i64 0):=by rw [hwa];simp [go_sem]
        have g3:wa.cell? ⟨w4.heap.size,3,none⟩=some (.int .i64 0):=by rw [hwa];simp [go_sem]
        have g4:wa.cell? ⟨w4.heap.size,4,none⟩=some (.int .i64 0):=by rw [hwa];simp [go_sem]
        have g5:wa.cell? ⟨w4.heap.size,5,none⟩=some (.int .i64 0):=by rw [hwa];simp [go_sem]
        have g6:wa.cell? ⟨w4.heap.size,6,none⟩=some (.slice none 0 0):=by rw [hwa];simp [go_sem]
        have r_1_0:=hv.keep _ _ _ r_1_0
        have r_1_1:=hv.keep _ _ _ r_1_1
        have r_1_2:=hv.keep _ _ _ r_1_2
        have r_1_3:=hv.keep _ _ _ r_1_3
        have r_1_4:=hv.keep _ _ _ r_1_4
        have r_1_5:=hv.keep _ _ _ r_1_5
        have HW:=Lib.hid (HW.out.trans hv)
        clear hwa hv HX HSS hHeld
        have hlra:=World.block_lt_of_cell? _ _ r_1_0
        go_wp2_with (go_at_call 28;(with_reducible refine (KF.out _).mono ?_);rintro e w5 ⟨rfl,hu⟩;have HW:=Lib.hid (HW.out.trans hu);have r_1_0:=hu.keep _ _ _ r_1_0;have r_1_1:=hu.keep _ _ _ r_1_1;have r_1_2:=hu.keep _ _ _ r_1_2;have r_1_3:=hu.keep _ _ _ r_1_3;have r_1_4:=hu.keep _ _ _ r_1_4;have r_1_5:=hu.keep _ _ _ r_1_5;have z0:=HW.out.ownGe (g:=w.heap.size+1) (by omega) 0;have z1:=HW.out.ownGe (g:=w.heap.size+1) (by omega) 1;have z2:=HW.out.ownGe (g:=w.heap.size+1) (by omega) 2;have z3:=HW.out.ownGe (g:=w.heap.size+1) (by omega) 3;have z4:=HW.out.ownGe (g:=w.heap.size+1) (by omega) 4;have z5:=HW.out.ownGe (g:=w.heap.size+1) (by omega) 5;clear hu)
        refine bodyPost_ret (v:=.tuple #[.agg #[.int .i64 0,.int .i64 0,.int .i64 0,.int .i64 0,.int .i64 0,.slice none 0 0],.int .i64 5]) (by simp [results,Tryz.results9,go_sem,r_1_0,r_1_1,r_1_2,r_1_3,r_1_4,r_1_5]) rfl ⟨rfl,?_⟩
        exact HW.out.setP6 (by omega)
      · have hlt_:w.heap.size+1<w3.heap.size:=World.block_lt_of_cell? _ _ r_1_0
        have g0:(w3.alloc (.cells #[.int .i64 0,.int .i64 0,.int .i64 0,.int .i64 0,.int .i64 0,.int .i64 0,.slice none 0 0] 58)).cell? ⟨w3.heap.size,0,none⟩=some (.int .i64 0):=by simp [go_sem]
        have g1:(w3.alloc (.cells #[.int .i64 0,.int .i64 0,.int .i64 0,.int .i64 0,.int .i64 0,.int .i64 0,.slice none 0 0] 58)).cell? ⟨w3.heap.size,1,none⟩=some (.int .i64 0):=by simp [go_sem]
        have g2:(w3.alloc (.cells #[.int .i64 0,.int .i64 0,.int .i64 0,.int .i64 0,.int .i64 0,.int .i64 0,.slice none 0 0] 58)).cell? ⟨w3.heap.size,2,none⟩=some (.int .i64 0):=by simp [go_sem]
        have g3:(w3.alloc (.cells #[.int .i64 0,.int .i64 0,.int .i64 0,.int .i64 0,.int .i64 0,.int .i64 0,.slice none 0 0] 58)).cell? ⟨w3.heap.size,3,none⟩=some (.int .i64 0):=by simp [go_sem]
        have g4:(w3.alloc (.cells #[.int .i64 0,.int .i64 0,.int .i64 0,.int .i64 0,.int .i64 0,.int .i64 0,.slice none 0 0] 58)).cell? ⟨w3.heap.size,4,none⟩=some (.int .i64 0):=by simp [go_sem]
        have g5:(w3.alloc (.cells #[.int .i64 0,.int .i64 0,.int .i64 0,.int .i64 0,.int .i64 0,.int .i64 0,.slice none 0 0] 58)).cell? ⟨w3.heap.size,5,none⟩=some (.int .i64 0):=by simp [go_sem]
        have g6:(w3.alloc (.cells #[.int .i64 0,.int .i64 0,.int .i64 0,.int .i64 0,.int .i64 0,.int .i64 0,.slice none 0 0] 58)).cell? ⟨w3.heap.size,6,none⟩=some (.slice none 0 0):=by simp [go_sem]
        have r_1_0:=((Up.refl w3).alloc #[.int .i64 0,.int .i64 0,.int .i64 0,.int .i64 0,.int .i64 0,.int .i64 0,.slice none 0 0] 58).keep _ _ _ r_1_0
        have r_1_1:=((Up.refl w3).alloc #[.int .i64 0,.int .i64 0,.int .i64 0,.int .i64 0,.int .i64 0,.int .i64 0,.slice none 0 0] 58).keep _ _ _ r_1_1
        have r_1_2:=((Up.refl w3).alloc #[.int .i64 0,.int .i64 0,.int .i64 0,.int .i64 0,.int .i64 0,.int .i64 0,.slice none 0 0] 58).keep _ _ _ r_1_2
        have r_1_3:=((Up.refl w3).alloc #[.int .i64 0,.int .i64 0,.int .i64 0,.int .i64 0,.int .i64 0,.int .i64 0,.slice none 0 0] 58).keep _ _ _ r_1_3
        have r_1_4:=((Up.refl w3).alloc #[.int .i64 0,.int .i64 0,.int .i64 0,.int .i64 0,.int .i64 0,.int .i64 0,.slice none 0 0] 58).keep _ _ _ r_1_4
        have r_1_5:=((Up.refl w3).alloc #[.int .i64 0,.int .i64 0,.int .i64 0,.int .i64 0,.int .i64 0,.int .i64 0,.slice none 0 0] 58).keep _ _ _ r_1_5
        have HW:=Lib.hid (HW.out.alloc #[.int .i64 0,.int .i64 0,.int .i64 0,.int .i64 0,.int .i64 0,.int .i64 0,.slice none 0 0] 58)
        have CB:=Lib.hid (((Up.refl w3).alloc #[.int .i64 0,.int .i64 0,.int .i64 0,.int .i64 0,.int .i64 0,.int .i64 0,.slice none 0 0] 58).keep _ _ _ CB.out)
        go_simp
        refine hK.out _ _ ?hB53 (fun hHeld=>?_)
        case hB53=>(with_reducible exact keepL6 (Lib.hid ((Up.refl _).alloc _ _)) hHeld)
        clear hK K
        (try simp only [Act.put,stpA,stpB,stpC])
        refine wpAnyH_ready (rs:=[6]) (by kernel_rfl) (by simp) ?_
        refine AllReadyH.cons (o:=⟨_,_,_,_,_,_⟩) rfl (fun K hK=>?_) (AllReadyH.nil)
        go_simp
        (go_at_call 31;(with_reducible refine (KA.out xb _ hHeld.1 CB.out).mono ?_);have hlr_:=World.block_lt_of_cell? _ _ r_1_0;have hsz_:=hHeld.1.size;have htb_:=World.block_lt_of_cell? _ _ g0;rintro e w4 ⟨rfl,hu⟩;have HW:=Lib.hid (HW.out.trans hu);have HX:=Lib.hid (keepL6 (Lib.hid hu) hHeld);have r_1_0:=hu.keep _ _ _ r_1_0;have r_1_1:=hu.keep _ _ _ r_1_1;have r_1_2:=hu.keep _ _ _ r_1_2;have r_1_3:=hu.keep _ _ _ r_1_3;have r_1_4:=hu.keep _ _ _ r_1_4;have r_1_5:=hu.keep _ _ _ r_1_5;have g0:=hu.keep _ _ _ g0;have g1:=hu.keep _ _ _ g1;have g2:=hu.keep _ _ _ g2;have g3:=hu.keep _ _ _ g3;have g4:=hu.keep _ _ _ g4;have g5:=hu.keep _ _ _ g5;have g6:=hu.keep _ _ _ g6;have fz0:=HW.out.ownGe (g:=w3.heap.size) (by omega) 0;have fz1:=HW.out.ownGe (g:=w3.heap.size) (by omega) 1;have fz2:=HW.out.ownGe (g:=w3.heap.size) (by omega) 2;have fz3:=HW.out.ownGe (g:=w3.heap.size) (by omega) 3;have fz4:=HW.out.ownGe (g:=w3.heap.size) (by omega) 4;have fz5:=HW.out.ownGe (g:=w3.heap.size) (by omega) 5;have fz6:=HW.out.ownGe (g:=w3.heap.size) (by omega) 6;clear hu)
        (try go_wp2_with fail)
        refine hK.out _ _ ?hB54 (fun hHeld=>?_)
        case hB54=>(with_reducible exact HX.out)
        clear hK K
        (try simp only [Act.put,stpA,stpB,stpC])
        refine takeT 7 rfl (by assumption) ?_
        (try simp only [Act.put,stpA,stpB,stpC])
        refine takeT 8 rfl (by assumption) ?_
        (try simp only [Act.put,stpA,stpB,stpC])
        refine takeT 9 rfl (by assumption) ?_
        (try simp only [Act.put,stpA,stpB,stpC])
        refine wpAnyH_ready (rs:=[11]) (by kernel_rfl) (by simp) ?_
        refine AllReadyH.cons (o:=⟨_,_,_,_,_,_⟩) rfl (fun K hK=>?_) (AllReadyH.nil)
        go_simp
        refine hK.out _ _ ?hB58 (fun hHeld=>?_)
        case hB58=>(with_reducible exact set7L6 hHeld (by omega) (by omega))
        clear hK K
        (try simp only [Act.put,stpA,stpB,stpC])
        refine takeT 12 rfl (by assumption) ?_
        (try simp only [Act.put,stpA,stpB,stpC])
        refine wpAnyH_done (by kernel_rfl) ?_ _
        obtain ⟨wa,hwa⟩:∃ z,z=((((((w4.setCell ⟨w3.heap.size,0,none⟩ (.int .i64 0)).setCell ⟨w3.heap.size,1,none⟩ (.int .i64 0)).setCell ⟨w3.heap.size,2,none⟩ (.int .i64 0)).setCell ⟨w3.heap.size,3,none⟩ (.int .i64 0)).setCell ⟨w3.heap.size,4,none⟩ (.int .i64 0)).setCell ⟨w3.heap.size,5,none⟩ (.int .i64 0)).setCell ⟨w3.heap.size,6,none⟩ (.slice none 0 0):=⟨_,rfl⟩
        rw [← hwa]
        obtain ⟨g0_,g1_,g2_,g3_,g4_,g5_,g6_⟩:=cells7 (w:=w4) (p:=w3.heap.size) (v0:=.int .i64 0) (v1:=.int .i64 0) (v2:=.int .i64 0) (v3:=.int .i64 0) (v4:=.int .i64 0) (v5:=.int .i64 0) (v6:=.slice none 0 0) g0 g1 g2 g3 g4 g5 g6
        rw [← hwa] at g0_ g1_ g2_ g3_ g4_ g5_ g6_
        have r_1_0_:wa.cell? ⟨w.heap.size+1,0,none⟩=some (.int .i64 0):=by rw [hwa];exact far7 (w:=w4) r_1_0 (by omega)
        have r_1_1_:wa.cell? ⟨w.heap.size+1,1,none⟩=some (.int .i64 0):=by rw [hwa];exact far7 (w:=w4) r_1_1 (by omega)
        have r_1_2_:wa.cell? ⟨w.heap.size+1,2,none⟩=some (.int .i64 0):=by rw [hwa];exact far7 (w:=w4) r_1_2 (by omega)
        have r_1_3_:wa.cell? ⟨w.heap.size+1,3,none⟩=some (.int .i64 0):=by rw [hwa];exact far7 (w:=w4) r_1_3 (by omega)
        have r_1_4_:wa.cell? ⟨w.heap.size+1,4,none⟩=some (.int .i64 0):=by rw [hwa];exact far7 (w:=w4) r_1_4 (by omega)
        have r_1_5_:wa.cell? ⟨w.heap.size+1,5,none⟩=some (.slice none 0 0):=by rw [hwa];exact far7 (w:=w4) r_1_5 (by omega)
        have HW:=Lib.hid (show Up w wa by rw [hwa];exact HW.out.set7 (by omega))
        clear hwa HX HSS hHeld fz0 fz1 fz2 fz3 fz4 fz5 fz6 g0 g1 g2 g3 g4 g5 g6 r_1_0 r_1_1 r_1_2 r_1_3 r_1_4 r_1_5
        have g0:=g0_
        have g1:=g1_
        have g2:=g2_
        have g3:=g3_
        have g4:=g4_
        have g5:=g5_
        have g6:=g6_
        have r_1_0:=r_1_0_
        have r_1_1:=r_1_1_
        have r_1_2:=r_1_2_
        have r_1_3:=r_1_3_
        have r_1_4:=r_1_4_
        have r_1_5:=r_1_5_
        have hlra:=World.block_lt_of_cell? _ _ r_1_0
        go_wp2_with (go_at_call 28;(with_reducible refine (KF.out _).mono ?_);rintro e w5 ⟨rfl,hu⟩;have HW:=Lib.hid (HW.out.trans hu);have r_1_0:=hu.keep _ _ _ r_1_0;have r_1_1:=hu.keep _ _ _ r_1_1;have r_1_2:=hu.keep _ _ _ r_1_2;have r_1_3:=hu.keep _ _ _ r_1_3;have r_1_4:=hu.keep _ _ _ r_1_4;have r_1_5:=hu.keep _ _ _ r_1_5;have z0:=HW.out.ownGe (g:=w.heap.size+1) (by omega) 0;have z1:=HW.out.ownGe (g:=w.heap.size+1) (by omega) 1;have z2:=HW.out.ownGe (g:=w.heap.size+1) (by omega) 2;have z3:=HW.out.ownGe (g:=w.heap.size+1) (by omega) 3;have z4:=HW.out.ownGe (g:=w.heap.size+1) (by omega) 4;have z5:=HW.out.ownGe (g:=w.heap.size+1) (by omega) 5;clear hu)
        refine bodyPost_ret (v:=.tuple #[.agg #[.int .i64 0,.int .i64 0,.int .i64 0,.int .i64 0,.int .i64 0,.slice none 0 0],.int .i64 5]) (by simp [results,Tryz.results9,go_sem,r_1_0,r_1_1,r_1_2,r_1_3,r_1_4,r_1_5]) rfl ⟨rfl,?_⟩
        exact HW.out.setP6 (by omega)
    · have hlt_:w.heap.size+1<w2.heap.size:=World.block_lt_of_cell? _ _ r_1_0
      have g0:(w2.alloc (.cells #[.int .i64 0,.int .i64 0,.int .i64 0,.int .i64 0,.int .i64 0,.int .i64 0,.slice none 0 0] 58)).cell? ⟨w2.heap.size,0,none⟩=some (.int .i64 0):=by simp [go_sem]
      have g1:(w2.alloc (.cells #[.int .i64 0,.int .i64 0,.int .i64 0,.int .i64 0,.int .i64 0,.int .i64 0,.slice none 0 0] 58)).cell? ⟨w2.heap.size,1,none⟩=some (.int .i64 0):=by simp [go_sem]
      have g2:(w2.alloc (.cells #[.int .i64 0,.int .i64 0,.int .i64 0,.int .i64 0,.int .i64 0,.int .i64 0,.slice none 0 0] 58)).cell? ⟨w2.heap.size,2,none⟩=some (.int .i64 0):=by simp [go_sem]
      have g3:(w2.alloc (.cells #[.int .i64 0,.int .i64 0,.int .i64 0,.int .i64 0,.int .i64 0,.int .i64 0,.slice none 0 0] 58)).cell? ⟨w2.heap.size,3,none⟩=some (.int .i64 0):=by simp [go_sem]
      have g4:(w2.alloc (.cells #[.int .i64 0,.int .i64 0,.int .i64 0,.int .i64 0,.int .i64 0,.int .i64 0,.slice none 0 0] 58)).cell? ⟨w2.heap.size,4,none⟩=some (.int .i64 0):=by simp [go_sem]
      have g5:(w2.alloc (.cells #[.int .i64 0,.int .i64 0,.int .i64 0,.int .i64 0,.int .i64 0,.int .i64 0,.slice none 0 0] 58)).cell? ⟨w2.heap.size,5,none⟩=some (.int .i64 0):=by simp [go_sem]
      have g6:(w2.alloc (.cells #[.int .i64 0,.int .i64 0,.int .i64 0,.int .i64 0,.int .i64 0,.int .i64 0,.slice none 0 0] 58)).cell? ⟨w2.heap.size,6,none⟩=some (.slice none 0 0):=by simp [go_sem]
      have r_1_0:=((Up.refl w2).alloc #[.int .i64 0,.int .i64 0,.int .i64 0,.int .i64 0,.int .i64 0,.int .i64 0,.slice none 0 0] 58).keep _ _ _ r_1_0
      have r_1_1:=((Up.refl w2).alloc #[.int .i64 0,.int .i64 0,.int .i64 0,.int .i64 0,.int .i64 0,.int .i64 0,.slice none 0 0] 58).keep _ _ _ r_1_1
      have r_1_2:=((Up.refl w2).alloc #[.int .i64 0,.int .i64 0,.int .i64 0,.int .i64 0,.int .i64 0,.int .i64 0,.slice none 0 0] 58).keep _ _ _ r_1_2
      have r_1_3:=((Up.refl w2).alloc #[.int .i64 0,.int .i64 0,.int .i64 0,.int .i64 0,.int .i64 0,.int .i64 0,.slice none 0 0] 58).keep _ _ _ r_1_3
      have r_1_4:=((Up.refl w2).alloc #[.int .i64 0,.int .i64 0,.int .i64 0,.int .i64 0,.int .i64 0,.int .i64 0,.slice none 0 0] 58).keep _ _ _ r_1_4
      have r_1_5:=((Up.refl w2).alloc #[.int .i64 0,.int .i64 0,.int .i64 0,.int .i64 0,.int .i64 0,.int .i64 0,.slice none 0 0] 58).keep _ _ _ r_1_5
      have HW:=Lib.hid (HW.out.alloc #[.int .i64 0,.int .i64 0,.int .i64 0,.int .i64 0,.int .i64 0,.int .i64 0,.slice none 0 0] 58)
      go_simp
      refine hK.out _ _ ?hB60 (fun hHeld=>?_)
      case hB60=>(with_reducible exact keepL6 (Lib.hid ((Up.refl _).alloc _ _)) hHeld)
      clear hK K
      (try simp only [Act.put,stpA,stpB,stpC])
      refine wpAnyH_ready (rs:=[5]) (by kernel_rfl) (by simp) ?_
      refine AllReadyH.cons (o:=⟨_,_,_,_,_,_⟩) rfl (fun K hK=>?_) (AllReadyH.nil)
      go_simp
      (go_at_call 32;(with_reducible refine (KN.out _).mono ?_);rintro e w3 ⟨xb,rfl,hu,cb⟩;have HW:=Lib.hid (HW.out.trans hu);have HX:=Lib.hid (keepL6 (Lib.hid hu) hHeld);have r_1_0:=hu.keep _ _ _ r_1_0;have r_1_1:=hu.keep _ _ _ r_1_1;have r_1_2:=hu.keep _ _ _ r_1_2;have r_1_3:=hu.keep _ _ _ r_1_3;have r_1_4:=hu.keep _ _ _ r_1_4;have r_1_5:=hu.keep _ _ _ r_1_5;have g0:=hu.keep _ _ _ g0;have g1:=hu.keep _ _ _ g1;have g2:=hu.keep _ _ _ g2;have g3:=hu.keep _ _ _ g3;have g4:=hu.keep _ _ _ g4;have g5:=hu.keep _ _ _ g5;have g6:=hu.keep _ _ _ g6;have fz0:=HW.out.ownGe (g:=w2.heap.size) (by omega) 0;have fz1:=HW.out.ownGe (g:=w2.heap.size) (by omega) 1;have fz2:=HW.out.ownGe (g:=w2.heap.size) (by omega) 2;have fz3:=HW.out.ownGe (g:=w2.heap.size) (by omega) 3;have fz4:=HW.out.ownGe (g:=w2.heap.size) (by omega) 4;have fz5:=HW.out.ownGe (g:=w2.heap.size) (by omega) 5;have fz6:=HW.out.ownGe (g:=w2.heap.size) (by omega) 6;have CB:=Lib.hid cb;clear cb;clear hu)
      (try go_wp2_with fail)
      refine hK.out _ _ ?hB61 (fun hHeld=>?_)
      case hB61=>(with_reducible exact HX.out)
      clear hK K
      (try simp only [Act.put,stpA,stpB,stpC])
      refine wpAnyH_ready (rs:=[6]) (by kernel_rfl) (by simp) ?_
      refine AllReadyH.cons (o:=⟨_,_,_,_,_,_⟩) rfl (fun K hK=>?_) (AllReadyH.nil)
      go_simp
      (go_at_call 31;(with_reducible refine (KA.out xb _ hHeld.1 CB.out).mono ?_);have hlr_:=World.block_lt_of_cell? _ _ r_1_0;have hsz_:=hHeld.1.size;have htb_:=World.block_lt_of_cell? _ _ g0;rintro e w4 ⟨rfl,hu⟩;have HW:=Lib.hid (HW.out.trans hu);have HX:=Lib.hid (keepL6 (Lib.hid hu) hHeld);have r_1_0:=hu.keep _ _ _ r_1_0;have r_1_1:=hu.keep _ _ _ r_1_1;have r_1_2:=hu.keep _ _ _ r_1_2;have r_1_3:=hu.keep _ _ _ r_1_3;have r_1_4:=hu.keep _ _ _ r_1_4;have r_1_5:=hu.keep _ _ _ r_1_5;have g0:=hu.keep _ _ _ g0;have g1:=hu.keep _ _ _ g1;have g2:=hu.keep _ _ _ g2;have g3:=hu.keep _ _ _ g3;have g4:=hu.keep _ _ _ g4;have g5:=hu.keep _ _ _ g5;have g6:=hu.keep _ _ _ g6;have fz0:=HW.out.ownGe (g:=w2.heap.size) (by omega) 0;have fz1:=HW.out.ownGe (g:=w2.heap.size) (by omega) 1;have fz2:=HW.out.ownGe (g:=w2.heap.size) (by omega) 2;have fz3:=HW.out.ownGe (g:=w2.heap.size) (by omega) 3;have fz4:=HW.out.ownGe (g:=w2.heap.size) (by omega) 4;have fz5:=HW.out.ownGe (g:=w2.heap.size) (by omega) 5;have fz6:=HW.out.ownGe (g:=w2.heap.size) (by omega) 6;clear hu)
      (try go_wp2_with fail)
      refine hK.out _ _ ?hB62 (fun hHeld=>?_)
      case hB62=>(with_reducible exact HX.out)
      clear hK K
      (try simp only [Act.put,stpA,stpB,stpC])
      refine takeT 7 rfl (by assumption) ?_
      (try simp only [Act.put,stpA,stpB,stpC])
      refine takeT 8 rfl (by assumption) ?_
      (try simp only [Act.put,stpA,stpB,stpC])
      refine takeT 9 rfl (by assumption) ?_
      (try simp only [Act.put,stpA,stpB,stpC])
      refine wpAnyH_ready (rs:=[11]) (by kernel_rfl) (by simp) ?_
      refine AllReadyH.cons (o:=⟨_,_,_,_,_,_⟩) rfl (fun K hK=>?_) (AllReadyH.nil)
      go_simp
      refine hK.out _ _ ?hB66 (fun hHeld=>?_)
      case hB66=>(with_reducible exact set7L6 hHeld (by omega) (by omega))
      clear hK K
      (try simp only [Act.put,stpA,stpB,stpC])
      refine takeT 12 rfl (by assumption) ?_
      (try simp only [Act.put,stpA,stpB,stpC])
      refine wpAnyH_done (by kernel_rfl) ?_ _
      obtain ⟨wa,hwa⟩:∃ z,z=((((((w4.setCell ⟨w2.heap.size,0,none⟩ (.int .i64 0)).setCell ⟨w2.heap.size,1,none⟩ (.int .i64 0)).setCell ⟨w2.heap.size,2,none⟩ (.int .i64 0)).setCell ⟨w2.heap.size,3,none⟩ (.int .i64 0)).setCell ⟨w2.heap.size,4,none⟩ (.int .i64 0)).setCell ⟨w2.heap.size,5,none⟩ (.int .i64 0)).setCell ⟨w2.heap.size,6,none⟩ (.slice none 0 0):=⟨_,rfl⟩
      rw [← hwa]
      obtain ⟨g0_,g1_,g2_,g3_,g4_,g5_,g6_⟩:=cells7 (w:=w4) (p:=w2.heap.size) (v0:=.int .i64 0) (v1:=.int .i64 0) (v2:=.int .i64 0) (v3:=.int .i64 0) (v4:=.int .i64 0) (v5:=.int .i64 0) (v6:=.slice none 0 0) g0 g1 g2 g3 g4 g5 g6
      rw [← hwa] at g0_ g1_ g2_ g3_ g4_ g5_ g6_
      have r_1_0_:wa.cell? ⟨w.heap.size+1,0,none⟩=some (.int .i64 0):=by rw [hwa];exact far7 (w:=w4) r_1_0 (by omega)
      have r_1_1_:wa.cell? ⟨w.heap.size+1,1,none⟩=some (.int .i64 0):=by rw [hwa];exact far7 (w:=w4) r_1_1 (by omega)
      have r_1_2_:wa.cell? ⟨w.heap.size+1,2,none⟩=some (.int .i64 0):=by rw [hwa];exact far7 (w:=w4) r_1_2 (by omega)
      have r_1_3_:wa.cell? ⟨w.heap.size+1,3,none⟩=some (.int .i64 0):=by rw [hwa];exact far7 (w:=w4) r_1_3 (by omega)
      have r_1_4_:wa.cell? ⟨w.heap.size+1,4,none⟩=some (.int .i64 0):=by rw [hwa];exact far7 (w:=w4) r_1_4 (by omega)
      have r_1_5_:wa.cell? ⟨w.heap.size+1,5,none⟩=some (.slice none 0 0):=by rw [hwa];exact far7 (w:=w4) r_1_5 (by omega)
      have HW:=Lib.hid (show Up w wa by rw [hwa];exact HW.out.set7 (by omega))
      clear hwa HX HSS hHeld fz0 fz1 fz2 fz3 fz4 fz5 fz6 g0 g1 g2 g3 g4 g5 g6 r_1_0 r_1_1 r_1_2 r_1_3 r_1_4 r_1_5
      have g0:=g0_
      have g1:=g1_
      have g2:=g2_
      have g3:=g3_
      have g4:=g4_
      have g5:=g5_
      have g6:=g6_
      have r_1_0:=r_1_0_
      have r_1_1:=r_1_1_
      have r_1_2:=r_1_2_
      have r_1_3:=r_1_3_
      have r_1_4:=r_1_4_
      have r_1_5:=r_1_5_
      have hlra:=World.block_lt_of_cell? _ _ r_1_0
      go_wp2_with (go_at_call 28;(with_reducible refine (KF.out _).mono ?_);rintro e w5 ⟨rfl,hu⟩;have HW:=Lib.hid (HW.out.trans hu);have r_1_0:=hu.keep _ _ _ r_1_0;have r_1_1:=hu.keep _ _ _ r_1_1;have r_1_2:=hu.keep _ _ _ r_1_2;have r_1_3:=hu.keep _ _ _ r_1_3;have r_1_4:=hu.keep _ _ _ r_1_4;have r_1_5:=hu.keep _ _ _ r_1_5;have z0:=HW.out.ownGe (g:=w.heap.size+1) (by omega) 0;have z1:=HW.out.ownGe (g:=w.heap.size+1) (by omega) 1;have z2:=HW.out.ownGe (g:=w.heap.size+1) (by omega) 2;have z3:=HW.out.ownGe (g:=w.heap.size+1) (by omega) 3;have z4:=HW.out.ownGe (g:=w.heap.size+1) (by omega) 4;have z5:=HW.out.ownGe (g:=w.heap.size+1) (by omega) 5;clear hu)
      refine bodyPost_ret (v:=.tuple #[.agg #[.int .i64 0,.int .i64 0,.int .i64 0,.int .i64 0,.int .i64 0,.slice none 0 0],.int .i64 5]) (by simp [results,Tryz.results9,go_sem,r_1_0,r_1_1,r_1_2,r_1_3,r_1_4,r_1_5]) rfl ⟨rfl,?_⟩
      exact HW.out.setP6 (by omega)
  · have hlt_:w.heap.size+1<w1.heap.size:=World.block_lt_of_cell? _ _ r_1_0
    have g0:(w1.alloc (.cells #[.int .i64 0,.int .i64 0,.int .i64 0,.int .i64 0,.int .i64 0,.int .i64 0,.slice none 0 0] 58)).cell? ⟨w1.heap.size,0,none⟩=some (.int .i64 0):=by simp [go_sem]
    have g1:(w1.alloc (.cells #[.int .i64 0,.int .i64 0,.int .i64 0,.int .i64 0,.int .i64 0,.int .i64 0,.slice none 0 0] 58)).cell? ⟨w1.heap.size,1,none⟩=some (.int .i64 0):=by simp [go_sem]
    have g2:(w1.alloc (.cells #[.int .i64 0,.int .i64 0,.int .i64 0,.int .i64 0,.int .i64 0,.int .i64 0,.slice none 0 0] 58)).cell? ⟨w1.heap.size,2,none⟩=some (.int .i64 0):=by simp [go_sem]
    have g3:(w1.alloc (.cells #[.int .i64 0,.int .i64 0,.int .i64 0,.int .i64 0,.int .i64 0,.int .i64 0,.slice none 0 0] 58)).cell? ⟨w1.heap.size,3,none⟩=some (.int .i64 0):=by simp [go_sem]
    have g4:(w1.alloc (.cells #[.int .i64 0,.int .i64 0,.int .i64 0,.int .i64 0,.int .i64 0,.int .i64 0,.slice none 0 0] 58)).cell? ⟨w1.heap.size,4,none⟩=some (.int .i64 0):=by simp [go_sem]
    have g5:(w1.alloc (.cells #[.int .i64 0,.int .i64 0,.int .i64 0,.int .i64 0,.int .i64 0,.int .i64 0,.slice none 0 0] 58)).cell? ⟨w1.heap.size,5,none⟩=some (.int .i64 0):=by simp [go_sem]
    have g6:(w1.alloc (.cells #[.int .i64 0,.int .i64 0,.int .i64 0,.int .i64 0,.int .i64 0,.int .i64 0,.slice none 0 0] 58)).cell? ⟨w1.heap.size,6,none⟩=some (.slice none 0 0):=by simp [go_sem]
    have r_1_0:=((Up.refl w1).alloc #[.int .i64 0,.int .i64 0,.int .i64 0,.int .i64 0,.int .i64 0,.int .i64 0,.slice none 0 0] 58).keep _ _ _ r_1_0
    have r_1_1:=((Up.refl w1).alloc #[.int .i64 0,.int .i64 0,.int .i64 0,.int .i64 0,.int .i64 0,.int .i64 0,.slice none 0 0] 58).keep _ _ _ r_1_1
    have r_1_2:=((Up.refl w1).alloc #[.int .i64 0,.int .i64 0,.int .i64 0,.int .i64 0,.int .i64 0,.int .i64 0,.slice none 0 0] 58).keep _ _ _ r_1_2
    have r_1_3:=((Up.refl w1).alloc #[.int .i64 0,.int .i64 0,.int .i64 0,.int .i64 0,.int .i64 0,.int .i64 0,.slice none 0 0] 58).keep _ _ _ r_1_3
    have r_1_4:=((Up.refl w1).alloc #[.int .i64 0,.int .i64 0,.int .i64 0,.int .i64 0,.int .i64 0,.int .i64 0,.slice none 0 0] 58).keep _ _ _ r_1_4
    have r_1_5:=((Up.refl w1).alloc #[.int .i64 0,.int .i64 0,.int .i64 0,.int .i64 0,.int .i64 0,.int .i64 0,.slice none 0 0] 58).keep _ _ _ r_1_5
    have HW:=Lib.hid (HW.out.alloc #[.int .i64 0,.int .i64 0,.int .i64 0,.int .i64 0,.int .i64 0,.int .i64 0,.slice none 0 0] 58)
    go_simp
    refine hK.out _ _ ?hB68 (fun hHeld=>?_)
    case hB68=>(with_reducible exact keepL6 (Lib.hid ((Up.refl _).alloc _ _)) hHeld)
    clear hK K
    (try simp only [Act.put,stpA,stpB,stpC])
    refine wpAnyH_ready (rs:=[1]) (by kernel_rfl) (by simp) ?_
    refine AllReadyH.cons (o:=⟨_,_,_,_,_,_⟩) rfl (fun K hK=>?_) (AllReadyH.nil)
    go_simp
    (go_at_call 27;(with_reducible refine (KT.out _).mono ?_);rintro e w2 ⟨rfl,hu⟩;have HW:=Lib.hid (HW.out.trans hu);have HX:=Lib.hid (keepL6 (Lib.hid hu) hHeld);have r_1_0:=hu.keep _ _ _ r_1_0;have r_1_1:=hu.keep _ _ _ r_1_1;have r_1_2:=hu.keep _ _ _ r_1_2;have r_1_3:=hu.keep _ _ _ r_1_3;have r_1_4:=hu.keep _ _ _ r_1_4;have r_1_5:=hu.keep _ _ _ r_1_5;have g0:=hu.keep _ _ _ g0;have g1:=hu.keep _ _ _ g1;have g2:=hu.keep _ _ _ g2;have g3:=hu.keep _ _ _ g3;have g4:=hu.keep _ _ _ g4;have g5:=hu.keep _ _ _ g5;have g6:=hu.keep _ _ _ g6;have fz0:=HW.out.ownGe (g:=w1.heap.size) (by omega) 0;have fz1:=HW.out.ownGe (g:=w1.heap.size) (by omega) 1;have fz2:=HW.out.ownGe (g:=w1.heap.size) (by omega) 2;have fz3:=HW.out.ownGe (g:=w1.heap.size) (by omega) 3;have fz4:=HW.out.ownGe (g:=w1.heap.size) (by omega) 4;have fz5:=HW.out.ownGe (g:=w1.heap.size) (by omega) 5;have fz6:=HW.out.ownGe (g:=w1.heap.size) (by omega) 6;clear hu)
    (try go_wp2_with fail)
    refine hK.out _ _ ?hB69 (fun hHeld=>?_)
    case hB69=>(with_reducible exact HX.out)
    clear hK K
    (try simp only [Act.put,stpA,stpB,stpC])
    refine wpAnyH_ready (rs:=[5]) (by kernel_rfl) (by simp) ?_
    refine AllReadyH.cons (o:=⟨_,_,_,_,_,_⟩) rfl (fun K hK=>?_) (AllReadyH.nil)
    go_simp
    (go_at_call 32;(with_reducible refine (KN.out _).mono ?_);rintro e w3 ⟨xb,rfl,hu,cb⟩;have HW:=Lib.hid (HW.out.trans hu);have HX:=Lib.hid (keepL6 (Lib.hid hu) hHeld);have r_1_0:=hu.keep _ _ _ r_1_0;have r_1_1:=hu.keep _ _ _ r_1_1;have r_1_2:=hu.keep _ _ _ r_1_2;have r_1_3:=hu.keep _ _ _ r_1_3;have r_1_4:=hu.keep _ _ _ r_1_4;have r_1_5:=hu.keep _ _ _ r_1_5;have g0:=hu.keep _ _ _ g0;have g1:=hu.keep _ _ _ g1;have g2:=hu.keep _ _ _ g2;have g3:=hu.keep _ _ _ g3;have g4:=hu.keep _ _ _ g4;have g5:=hu.keep _ _ _ g5;have g6:=hu.keep _ _ _ g6;have fz0:=HW.out.ownGe (g:=w1.heap.size) (by omega) 0;have fz1:=HW.out.ownGe (g:=w1.heap.size) (by omega) 1;have fz2:=HW.out.ownGe (g:=w1.heap.size) (by omega) 2;have fz3:=HW.out.ownGe (g:=w1.heap.size) (by omega) 3;have fz4:=HW.out.ownGe (g:=w1.heap.size) (by omega) 4;have fz5:=HW.out.ownGe (g:=w1.heap.size) (by omega) 5;have fz6:=HW.out.ownGe (g:=w1.heap.size) (by omega) 6;have CB:=Lib.hid cb;clear cb;clear hu)
    (try go_wp2_with fail)
    refine hK.out _ _ ?hB70 (fun hHeld=>?_)
    case hB70=>(with_reducible exact HX.out)
    clear hK K
    (try simp only [Act.put,stpA,stpB,stpC])
    refine wpAnyH_ready (rs:=[6]) (by kernel_rfl) (by simp) ?_
    refine AllReadyH.cons (o:=⟨_,_,_,_,_,_⟩) rfl (fun K hK=>?_) (AllReadyH.nil)
    go_simp
    (go_at_call 31;(with_reducible refine (KA.out xb _ hHeld.1 CB.out).mono ?_);have hlr_:=World.block_lt_of_cell? _ _ r_1_0;have hsz_:=hHeld.1.size;have htb_:=World.block_lt_of_cell? _ _ g0;rintro e w4 ⟨rfl,hu⟩;have HW:=Lib.hid (HW.out.trans hu);have HX:=Lib.hid (keepL6 (Lib.hid hu) hHeld);have r_1_0:=hu.keep _ _ _ r_1_0;have r_1_1:=hu.keep _ _ _ r_1_1;have r_1_2:=hu.keep _ _ _ r_1_2;have r_1_3:=hu.keep _ _ _ r_1_3;have r_1_4:=hu.keep _ _ _ r_1_4;have r_1_5:=hu.keep _ _ _ r_1_5;have g0:=hu.keep _ _ _ g0;have g1:=hu.keep _ _ _ g1;have g2:=hu.keep _ _ _ g2;have g3:=hu.keep _ _ _ g3;have g4:=hu.keep _ _ _ g4;have g5:=hu.keep _ _ _ g5;have g6:=hu.keep _ _ _ g6;have fz0:=HW.out.ownGe (g:=w1.heap.size) (by omega) 0;have fz1:=HW.out.ownGe (g:=w1.heap.size) (by omega) 1;have fz2:=HW.out.ownGe (g:=w1.heap.size) (by omega) 2;have fz3:=HW.out.ownGe (g:=w1.heap.size) (by omega) 3;have fz4:=HW.out.ownGe (g:=w1.heap.size) (by omega) 4;have fz5:=HW.out.ownGe (g:=w1.heap.size) (by omega) 5;have fz6:=HW.out.ownGe (g:=w1.heap.size) (by omega) 6;clear hu)
    (try go_wp2_with fail)
    refine hK.out _ _ ?hB71 (fun hHeld=>?_)
    case hB71=>(with_reducible exact HX.out)
    clear hK K
    (try simp only [Act.put,stpA,stpB,stpC])
    refine takeT 7 rfl (by assumption) ?_
    (try simp only [Act.put,stpA,stpB,stpC])
    refine takeT 8 rfl (by assumption) ?_
    (try simp only [Act.put,stpA,stpB,stpC])
    refine takeT 9 rfl (by assumption) ?_
    (try simp only [Act.put,stpA,stpB,stpC])
    refine wpAnyH_ready (rs:=[11]) (by kernel_rfl) (by simp) ?_
    refine AllReadyH.cons (o:=⟨_,_,_,_,_,_⟩) rfl (fun K hK=>?_) (AllReadyH.nil)
    go_simp
    refine hK.out _ _ ?hB75 (fun hHeld=>?_)
    case hB75=>(with_reducible exact set7L6 hHeld (by omega) (by omega))
    clear hK K
    (try simp only [Act.put,stpA,stpB,stpC])
    refine takeT 12 rfl (by assumption) ?_
    (try simp only [Act.put,stpA,stpB,stpC])
    refine wpAnyH_done (by kernel_rfl) ?_ _
    obtain ⟨wa,hwa⟩:∃ z,z=((((((w4.setCell ⟨w1.heap.size,0,none⟩ (.int .i64 0)).setCell ⟨w1.heap.size,1,none⟩ (.int .i64 0)).setCell ⟨w1.heap.size,2,none⟩ (.int .i64 0)).setCell ⟨w1.heap.size,3,none⟩ (.int .i64 0)).setCell ⟨w1.heap.size,4,none⟩ (.int .i64 0)).setCell ⟨w1.heap.size,5,none⟩ (.int .i64 0)).setCell ⟨w1.heap.size,6,none⟩ (.slice none 0 0):=⟨_,rfl⟩
    rw [← hwa]
    obtain ⟨g0_,g1_,g2_,g3_,g4_,g5_,g6_⟩:=cells7 (w:=w4) (p:=w1.heap.size) (v0:=.int .i64 0) (v1:=.int .i64 0) (v2:=.int .i64 0) (v3:=.int .i64 0) (v4:=.int .i64 0) (v5:=.int .i64 0) (v6:=.slice none 0 0) g0 g1 g2 g3 g4 g5 g6
    rw [← hwa] at g0_ g1_ g2_ g3_ g4_ g5_ g6_
    have r_1_0_:wa.cell? ⟨w.heap.size+1,0,none⟩=some (.int .i64 0):=by rw [hwa];exact far7 (w:=w4) r_1_0 (by omega)
    have r_1_1_:wa.cell? ⟨w.heap.size+1,1,none⟩=some (.int .i64 0):=by rw [hwa];exact far7 (w:=w4) r_1_1 (by omega)
    have r_1_2_:wa.cell? ⟨w.heap.size+1,2,none⟩=some (.int .i64 0):=by rw [hwa];exact far7 (w:=w4) r_1_2 (by omega)
    have r_1_3_:wa.cell? ⟨w.heap.size+1,3,none⟩=some (.int .i64 0):=by rw [hwa];exact far7 (w:=w4) r_1_3 (by omega)
    have r_1_4_:wa.cell? ⟨w.heap.size+1,4,none⟩=some (.int .i64 0):=by rw [hwa];exact far7 (w:=w4) r_1_4 (by omega)
    have r_1_5_:wa.cell? ⟨w.heap.size+1,5,none⟩=some (.slice none 0 0):=by rw [hwa];exact far7 (w:=w4) r_1_5 (by omega)
    have HW:=Lib.hid (show Up w wa by rw [hwa];exact HW.out.set7 (by omega))
    clear hwa HX HSS hHeld fz0 fz1 fz2 fz3 fz4 fz5 fz6 g0 g1 g2 g3 g4 g5 g6 r_1_0 r_1_1 r_1_2 r_1_3 r_1_4 r_1_5
    have g0:=g0_
    have g1:=g1_
    have g2:=g2_
    have g3:=g3_
    have g4:=g4_
    have g5:=g5_
    have g6:=g6_
    have r_1_0:=r_1_0_
    have r_1_1:=r_1_1_
    have r_1_2:=r_1_2_
    have r_1_3:=r_1_3_
    have r_1_4:=r_1_4_
    have r_1_5:=r_1_5_
    have hlra:=World.block_lt_of_cell? _ _ r_1_0
    go_wp2_with (go_at_call 28;(with_reducible refine (KF.out _).mono ?_);rintro e w5 ⟨rfl,hu⟩;have HW:=Lib.hid (HW.out.trans hu);have r_1_0:=hu.keep _ _ _ r_1_0;have r_1_1:=hu.keep _ _ _ r_1_1;have r_1_2:=hu.keep _ _ _ r_1_2;have r_1_3:=hu.keep _ _ _ r_1_3;have r_1_4:=hu.keep _ _ _ r_1_4;have r_1_5:=hu.keep _ _ _ r_1_5;have z0:=HW.out.ownGe (g:=w.heap.size+1) (by omega) 0;have z1:=HW.out.ownGe (g:=w.heap.size+1) (by omega) 1;have z2:=HW.out.ownGe (g:=w.heap.size+1) (by omega) 2;have z3:=HW.out.ownGe (g:=w.heap.size+1) (by omega) 3;have z4:=HW.out.ownGe (g:=w.heap.size+1) (by omega) 4;have z5:=HW.out.ownGe (g:=w.heap.size+1) (by omega) 5;clear hu)
    refine bodyPost_ret (v:=.tuple #[.agg #[.int .i64 0,.int .i64 0,.int .i64 0,.int .i64 0,.int .i64 0,.slice none 0 0],.int .i64 5]) (by simp [results,Tryz.results9,go_sem,r_1_0,r_1_1,r_1_2,r_1_3,r_1_4,r_1_5]) rfl ⟨rfl,?_⟩
    exact HW.out.setP6 (by omega)

/-- What a good Add wants of the marks behind the new one. -/
theorem good14 {v q c now seq d:Int} {X:List Mrk} {n:Nat} (hl:X.length=n) (hv:stP v q c now seq X=true) (hd:valG 4 d) (hf:fuM c seq X=false):(0≤seq∧seq≤1099511627776)∧(∀ j,j<n→bdM (X.getD j mk0))∧∀ i p j,i<p→p≤j→j<n+1→clQ q ((inM (seq+1) now d X).getD i mk0) ((inM (seq+1) now d X).getD p mk0)=false→clQ q ((inM (seq+1) now d X).getD i mk0) ((inM (seq+1) now d X).getD j mk0)=false:=by
  obtain ⟨hm,hx,_⟩:=stP_true hv
  obtain ⟨g1,g2,hc,g4⟩:=mayC_facts hm
  obtain ⟨hs2,hok⟩:=mrkB_true hx
  obtain ⟨i1,i2⟩:=inM_facts (now:=now) hx hc.2 hf hd.1 hd.2.1
  refine ⟨hs2,fun j hj=>(hok j (by rw [hl];exact hj)).bd hc.2 hs2.2,fun i p j hip hpj hj h=>?_⟩
  cases hk:clQ q ((inM (seq+1) now d X).getD i mk0) ((inM (seq+1) now d X).getD j mk0) with
  | false=>rfl
  | true=>exact absurd (clQ_anti (i1 p (by rw [inM_len,hl];omega)) (i2 p j hpj (by rw [inM_len,hl];exact hj)) hk) (by rw [h];exact Bool.false_ne_true)

set_option maxHeartbeats 4000000 in
set_option maxRecDepth 100000 in
theorem add14_good (v q c now seq d:Int) (n k:Nat) (A:Option Addr) (X:List Mrk) (hn:n≤50000) (hk:n≤k) (hv:stP v q c now seq X=true) (hd:valG 4 d) (hf:fuM c seq X=false) (w:World) (hS:SG cM w A n X) :
    Calls Tryz.prog 9 #[.agg #[.int .i64 v,.int .i64 q,.int .i64 c,.int .i64 now,.int .i64 seq,.slice A n k],.int .i64 d] w fun e w'=>∃ A' n' k',e=.returned (.tuple #[.agg #[.int .i64 v,.int .i64 q,.int .i64 c,.int .i64 now,.int .i64 (seq+1),.slice A' n' k'],.int .i64 0])∧n'≤n+1∧n'≤k'∧Nw w A'∧Up w w'∧SG cM w' A' n' (adS q seq now d X):=by
  have HL:=Lib.hid hS.1
  obtain ⟨hs2,hD,hAN⟩:=good14 hS.1 hv hd hf
  have KV:=Lib.hid (fun W (h:SG cM W A n X)=>validate14_up v q c now seq n k A X hn W h)
  rw [stPE_yes hv] at KV
  have HS:=Lib.hid hS
  have KT:=Lib.hid (toSmooth_up v q c now seq n k A)
  have KN:=Lib.hid (closeness_up q)
  have KA:=Lib.hid (fun (b1:Nat) W (hu:Up w W) (hb:W.cell? ⟨b1,0,none⟩=some (.int .i64 q))=>maddS_good (clQ q) (fun _=>True) b1 4 v q c now seq d n k A X hn (by omega) hd hf hs2 hD (fun _ _=>trivial) hAN W (close_rule b1 q W hb) (hS.up hu))
  have KF:=Lib.hid (fun A5 n5 k5=>fromSmooth_up 4 v q c now (seq+1) n5 k5 A5)
  have HZ:Hid (prL (clQ q) (n+1) (inM (seq+1) now d X)=adS q seq now d X):=Lib.hid (by rw [← HL.out];rfl)
  rw [HZ.out] at KA
  clear HZ hs2 hD hAN hS hv hd hf
  generalize adS q seq now d X=Z at *
  go_enter Tryz.func9,Tryz.ntmps9
  go_upto_region 4 with (go_at_call 13;(with_reducible refine (KV.out _ (HS.out.up (((Up.refl w).alloc _ _).alloc _ _))).mono ?_);rintro e w1 ⟨rfl,hu⟩;have hv:=(((Up.refl w).alloc #[.int .i64 v,.int .i64 q,.int .i64 c,.int .i64 now,.int .i64 seq,.slice A n k] 24).alloc #[.int .i64 0,.int .i64 0,.int .i64 0,.int .i64 0,.int .i64 0,.slice none 0 0] 24).trans hu;have HV1:=Lib.hid hv;have HU1:=Lib.hid ((Up.refl w).trans hv);have a_1_0:=hu.keep (w.heap.size) 0 (.int .i64 v) (by simp [go_sem]);have a_1_1:=hu.keep (w.heap.size) 1 (.int .i64 q) (by simp [go_sem]);have a_1_2:=hu.keep (w.heap.size) 2 (.int .i64 c) (by simp [go_sem]);have a_1_3:=hu.keep (w.heap.size) 3 (.int .i64 now) (by simp [go_sem]);have a_1_4:=hu.keep (w.heap.size) 4 (.int .i64 seq) (by simp [go_sem]);have a_1_5:=hu.keep (w.heap.size) 5 (.slice A n k) (by simp [go_sem]);have r_1_0:=hu.keep (w.heap.size+1) 0 (.int .i64 0) (by simp [go_sem]);have r_1_1:=hu.keep (w.heap.size+1) 1 (.int .i64 0) (by simp [go_sem]);have r_1_2:=hu.keep (w.heap.size+1) 2 (.int .i64 0) (by simp [go_sem]);have r_1_3:=hu.keep (w.heap.size+1) 3 (.int .i64 0) (by simp [go_sem]);have r_1_4:=hu.keep (w.heap.size+1) 4 (.int .i64 0) (by simp [go_sem]);have r_1_5:=hu.keep (w.heap.size+1) 5 (.slice none 0 0) (by simp [go_sem]);have la1:=World.block_lt_of_cell? _ _ a_1_0;have lr1:=World.block_lt_of_cell? _ _ r_1_0;clear hu hv )
  have HSS:Hid (Up w w1∧w1.cell? ⟨w.heap.size,0,none⟩=some (.int .i64 v)∧w1.cell? ⟨w.heap.size,1,none⟩=some (.int .i64 q)∧w1.cell? ⟨w.heap.size,2,none⟩=some (.int .i64 c)∧w1.cell? ⟨w.heap.size,3,none⟩=some (.int .i64 now)∧w1.cell? ⟨w.heap.size,4,none⟩=some (.int .i64 seq)∧w1.cell? ⟨w.heap.size,5,none⟩=some (.slice A n k)):=Lib.hid ⟨HU1.out,a_1_0,a_1_1,a_1_2,a_1_3,a_1_4,a_1_5⟩
  have HW:=Lib.hid HU1.out.drew
  clear a_1_0 a_1_1 a_1_2 a_1_3 a_1_4 a_1_5
  go_wp2_with fail
  refine wp_region_held_drew (S:=fun w'=>Up w w'∧w'.cell? ⟨w.heap.size,0,none⟩=some (.int .i64 v)∧w'.cell? ⟨w.heap.size,1,none⟩=some (.int .i64 q)∧w'.cell? ⟨w.heap.size,2,none⟩=some (.int .i64 c)∧w'.cell? ⟨w.heap.size,3,none⟩=some (.int .i64 now)∧w'.cell? ⟨w.heap.size,4,none⟩=some (.int .i64 seq)∧w'.cell? ⟨w.heap.size,5,none⟩=some (.slice A n k)) (by kernel_rfl) ?hB77 (fun hHeld=>?_)
  case hB77=>(with_reducible exact keepL6 (Lib.hid (Up.refl _).drew) HSS.out)
  refine takeT 0 rfl (by assumption) ?_
  (try simp only [Act.put,stpA,stpB,stpC])
  refine takeT 2 rfl (by assumption) ?_
  (try simp only [Act.put,stpA,stpB,stpC])
  refine takeT 3 rfl (by assumption) ?_
  (try simp only [Act.put,stpA,stpB,stpC])
  refine takeT 4 rfl (by assumption) ?_
  (try simp only [Act.put,stpA,stpB,stpC])
  refine wpAnyH_ready (rs:=[1,10]) (by kernel_rfl) (by simp) ?_
  refine AllReadyH.cons (o:=⟨_,_,_,_,_,_⟩) rfl (fun K hK=>?_) (AllReadyH.cons (o:=⟨_,_,_,_,_,_⟩) rfl (fun K hK=>?_) (AllReadyH.nil))
  · go_simp
    (go_at_call 27;(with_reducible refine (KT.out _).mono ?_);rintro e w2 ⟨rfl,hu⟩;have HW:=Lib.hid (HW.out.trans hu);have HX:=Lib.hid (keepL6 (Lib.hid hu) hHeld);have r_1_0:=hu.keep _ _ _ r_1_0;have r_1_1:=hu.keep _ _ _ r_1_1;have r_1_2:=hu.keep _ _ _ r_1_2;have r_1_3:=hu.keep _ _ _ r_1_3;have r_1_4:=hu.keep _ _ _ r_1_4;have r_1_5:=hu.keep _ _ _ r_1_5;clear hu)
    (try go_wp2_with fail)
    refine hK.out _ _ ?hB82 (fun hHeld=>?_)
    case hB82=>(with_reducible exact HX.out)
    clear hK K
    (try simp only [Act.put,stpA,stpB,stpC])
    refine wpAnyH_ready (rs:=[5,10]) (by kernel_rfl) (by simp) ?_
    refine AllReadyH.cons (o:=⟨_,_,_,_,_,_⟩) rfl (fun K hK=>?_) (AllReadyH.cons (o:=⟨_,_,_,_,_,_⟩) rfl (fun K hK=>?_) (AllReadyH.nil))
    · go_simp
      (go_at_call 32;(with_reducible refine (KN.out _).mono ?_);rintro e w3 ⟨xb,rfl,hu,cb⟩;have HW:=Lib.hid (HW.out.trans hu);have HX:=Lib.hid (keepL6 (Lib.hid hu) hHeld);have r_1_0:=hu.keep _ _ _ r_1_0;have r_1_1:=hu.keep _ _ _ r_1_1;have r_1_2:=hu.keep _ _ _ r_1_2;have r_1_3:=hu.keep _ _ _ r_1_3;have r_1_4:=hu.keep _ _ _ r_1_4;have r_1_5:=hu.keep _ _ _ r_1_5;have CB:=Lib.hid cb;clear cb;clear hu)
      (try go_wp2_with fail)
      refine hK.out _ _ ?hB83 (fun hHeld=>?_)
      case hB83=>(with_reducible exact HX.out)
      clear hK K
      (try simp only [Act.put,stpA,stpB,stpC])
      refine wpAnyH_ready (rs:=[6,10]) (by kernel_rfl) (by simp) ?_
      refine AllReadyH.cons (o:=⟨_,_,_,_,_,_⟩) rfl (fun K hK=>?_) (AllReadyH.cons (o:=⟨_,_,_,_,_,_⟩) rfl (fun K hK=>?_) (AllReadyH.nil))
      · go_simp
        (go_at_call 31;(with_reducible refine (KA.out xb _ hHeld.1 CB.out).mono ?_);have hlr_:=World.block_lt_of_cell? _ _ r_1_0;have hsz_:=hHeld.1.size;rintro e w4 ⟨A5,n5,k5,rfl,hn5,hk5,hnw,hu,hM⟩;have HW:=Lib.hid (HW.out.trans hu);have HX:=Lib.hid (keepL6 (Lib.hid hu) hHeld);have r_1_0:=hu.keep _ _ _ r_1_0;have r_1_1:=hu.keep _ _ _ r_1_1;have r_1_2:=hu.keep _ _ _ r_1_2;have r_1_3:=hu.keep _ _ _ r_1_3;have r_1_4:=hu.keep _ _ _ r_1_4;have r_1_5:=hu.keep _ _ _ r_1_5;have HM5:=Lib.hid hM;have HNW:=Lib.hid hnw;clear hM hnw;clear hu)
        (try go_wp2_with fail)
        refine hK.out _ _ ?hB84 (fun hHeld=>?_)
        case hB84=>(with_reducible exact HX.out)
        clear hK K
        (try simp only [Act.put,stpA,stpB,stpC])
        refine takeT 7 rfl (by assumption) ?_
        (try simp only [Act.put,stpA,stpB,stpC])
        refine takeT 8 rfl (by assumption) ?_
        (try simp only [Act.put,stpA,stpB,stpC])
        refine takeT 9 rfl (by assumption) ?_
        (try simp only [Act.put,stpA,stpB,stpC])
        refine wpAnyH_ready (rs:=[10]) (by kernel_rfl) (by simp) ?_
        refine AllReadyH.cons (o:=⟨_,_,_,_,_,_⟩) rfl (fun K hK=>?_) (AllReadyH.nil)
        go_simp
        refine hK.out _ _ ?hB88 (fun hHeld=>?_)
        case hB88=>(with_reducible exact keepL6 (Lib.hid ((Up.refl _).alloc _ _)) HX.out)
        clear hK K
        (try simp only [Act.put,stpA,stpB,stpC])
        refine wpAnyH_ready (rs:=[11]) (by kernel_rfl) (by simp) ?_
        refine AllReadyH.cons (o:=⟨_,_,_,_,_,_⟩) rfl (fun K hK=>?_) (AllReadyH.nil)
        go_simp
        refine hK.out _ _ ?hB89 (fun hHeld=>?_)
        case hB89=>(with_reducible exact keepL6 (Lib.hid ((Up.refl _).alloc _ _)) HX.out)
        clear hK K
        (try simp only [Act.put,stpA,stpB,stpC])
        refine takeT 12 rfl (by assumption) ?_
        (try simp only [Act.put,stpA,stpB,stpC])
        refine wpAnyH_done (by kernel_rfl) ?_ _
        have hlt_:w.heap.size+1<w4.heap.size:=World.block_lt_of_cell? _ _ r_1_0
        obtain ⟨wa,hwa⟩:∃ z,z=w4.alloc (.cells #[.int .i64 4,.int .i64 v,.int .i64 q,.int .i64 c,.int .i64 now,.int .i64 (seq+1),.slice A5 n5 k5] 58):=⟨_,rfl⟩
        rw [← hwa]
        have hv:Up w4 wa:=by rw [hwa];exact (Up.refl _).alloc _ _
        have g0:wa.cell? ⟨w4.heap.size,0,none⟩=some (.int .i64 4):=by rw [hwa];simp [go_sem]
        have g1:wa.cell? ⟨w4.heap.size,1,none⟩=some (.int .i64 v):=by rw [hwa];simp [go_sem]
        have g2:wa.cell? ⟨w4.heap.size,2,none⟩=some (.int .i64 q):=by rw [hwa];simp [go_sem]
        have g3:wa.cell? ⟨w4.heap.size,3,none⟩=some (.int .i64 c):=by rw [hwa];simp [go_sem]
        have g4:wa.cell? ⟨w4.heap.size,4,none⟩=some (.int .i64 now):=by rw [hwa];simp [go_sem]
        have g5:wa.cell? ⟨w4.heap.size,5,none⟩=some (.int .i64 (seq+1)):=by rw [hwa];simp [go_sem]
        have g6:wa.cell? ⟨w4.heap.size,6,none⟩=some (.slice A5 n5 k5):=by rw [hwa];simp [go_sem]
        have r_1_0:=hv.keep _ _ _ r_1_0
        have r_1_1:=hv.keep _ _ _ r_1_1
        have r_1_2:=hv.keep _ _ _ r_1_2
        have r_1_3:=hv.keep _ _ _ r_1_3
        have r_1_4:=hv.keep _ _ _ r_1_4
        have r_1_5:=hv.keep _ _ _ r_1_5
        have HW:=Lib.hid (HW.out.trans hv)
        have HM:=Lib.hid (HM5.out.up hv)
        clear hwa hv HX HSS hHeld
        have hlra:=World.block_lt_of_cell? _ _ r_1_0
        go_wp2_with (go_at_call 28;(with_reducible refine (KF.out _ _ _ _).mono ?_);rintro e w5 ⟨rfl,hu⟩;have HW:=Lib.hid (HW.out.trans hu);have r_1_0:=hu.keep _ _ _ r_1_0;have r_1_1:=hu.keep _ _ _ r_1_1;have r_1_2:=hu.keep _ _ _ r_1_2;have r_1_3:=hu.keep _ _ _ r_1_3;have r_1_4:=hu.keep _ _ _ r_1_4;have r_1_5:=hu.keep _ _ _ r_1_5;have z0:=HW.out.ownGe (g:=w.heap.size+1) (by omega) 0;have z1:=HW.out.ownGe (g:=w.heap.size+1) (by omega) 1;have z2:=HW.out.ownGe (g:=w.heap.size+1) (by omega) 2;have z3:=HW.out.ownGe (g:=w.heap.size+1) (by omega) 3;have z4:=HW.out.ownGe (g:=w.heap.size+1) (by omega) 4;have z5:=HW.out.ownGe (g:=w.heap.size+1) (by omega) 5;have HM:=Lib.hid (HM.out.up hu);clear hu)
        refine bodyPost_ret (v:=.tuple #[.agg #[.int .i64 v,.int .i64 q,.int .i64 c,.int .i64 now,.int .i64 (seq+1),.slice A5 n5 k5],.int .i64 0]) (by simp [results,Tryz.results9,go_sem,r_1_0,r_1_1,r_1_2,r_1_3,r_1_4,r_1_5]) rfl ⟨A5,n5,k5,rfl,hn5,hk5,fun b_ o_ h_=>Nat.le_trans hsz_ (HNW.out b_ o_ h_),?_,?_⟩
        · exact HW.out.setP6 (by omega)
        · exact HM.out.offP6 (fun b_ o_ h_=>by have:=HNW.out b_ o_ h_;omega) _ _ _ _ _ _
      · have hlt_:w.heap.size+1<w3.heap.size:=World.block_lt_of_cell? _ _ r_1_0
        have g0:(w3.alloc (.cells #[.int .i64 0,.int .i64 0,.int .i64 0,.int .i64 0,.int .i64 0,.int .i64 0,.slice none 0 0] 58)).cell? ⟨w3.heap.size,0,none⟩=some (.int .i64 0):=by simp [go_sem]
        have g1:(w3.alloc (.cells #[.int .i64 0,.int .i64 0,.int .i64 0,.int .i64 0,.int .i64 0,.int .i64 0,.slice none 0 0] 58)).cell? ⟨w3.heap.size,1,none⟩=some (.int .i64 0):=by simp [go_sem]
        have g2:(w3.alloc (.cells #[.int .i64 0,.int .i64 0,.int .i64 0,.int .i64 0,.int .i64 0,.int .i64 0,.slice none 0 0] 58)).cell? ⟨w3.heap.size,2,none⟩=some (.int .i64 0):=by simp [go_sem]
        have g3:(w3.alloc (.cells #[.int .i64 0,.int .i64 0,.int .i64 0,.int .i64 0,.int .i64 0,.int .i64 0,.slice none 0 0] 58)).cell? ⟨w3.heap.size,3,none⟩=some (.int .i64 0):=by simp [go_sem]
        have g4:(w3.alloc (.cells #[.int .i64 0,.int .i64 0,.int .i64 0,.int .i64 0,.int .i64 0,.int .i64 0,.slice none 0 0] 58)).cell? ⟨w3.heap.size,4,none⟩=some (.int .i64 0):=by simp [go_sem]
        have g5:(w3.alloc (.cells #[.int .i64 0,.int .i64 0,.int .i64 0,.int .i64 0,.int .i64 0,.int .i64 0,.slice none 0 0] 58)).cell? ⟨w3.heap.size,5,none⟩=some (.int .i64 0):=by simp [go_sem]
        have g6:(w3.alloc (.cells #[.int .i64 0,.int .i64 0,.int .i64 0,.int .i64 0,.int .i64 0,.int .i64 0,.slice none 0 0] 58)).cell? ⟨w3.heap.size,6,none⟩=some (.slice none 0 0):=by simp [go_sem]
        have r_1_0:=((Up.refl w3).alloc #[.int .i64 0,.int .i64 0,.int .i64 0,.int .i64 0,.int .i64 0,.int .i64 0,.slice none 0 0] 58).keep _ _ _ r_1_0
        have r_1_1:=((Up.refl w3).alloc #[.int .i64 0,.int .i64 0,.int .i64 0,.int .i64 0,.int .i64 0,.int .i64 0,.slice none 0 0] 58).keep _ _ _ r_1_1
        have r_1_2:=((Up.refl w3).alloc #[.int .i64 0,.int .i64 0,.int .i64 0,.int .i64 0,.int .i64 0,.int .i64 0,.slice none 0 0] 58).keep _ _ _ r_1_2
        have r_1_3:=((Up.refl w3).alloc #[.int .i64 0,.int .i64 0,.int .i64 0,.int .i64 0,.int .i64 0,.int .i64 0,.slice none 0 0] 58).keep _ _ _ r_1_3
        have r_1_4:=((Up.refl w3).alloc #[.int .i64 0,.int .i64 0,.int .i64 0,.int .i64 0,.int .i64 0,.int .i64 0,.slice none 0 0] 58).keep _ _ _ r_1_4
        have r_1_5:=((Up.refl w3).alloc #[.int .i64 0,.int .i64 0,.int .i64 0,.int .i64 0,.int .i64 0,.int .i64 0,.slice none 0 0] 58).keep _ _ _ r_1_5
        have HW:=Lib.hid (HW.out.alloc #[.int .i64 0,.int .i64 0,.int .i64 0,.int .i64 0,.int .i64 0,.int .i64 0,.slice none 0 0] 58)
        have CB:=Lib.hid (((Up.refl w3).alloc #[.int .i64 0,.int .i64 0,.int .i64 0,.int .i64 0,.int .i64 0,.int .i64 0,.slice none 0 0] 58).keep _ _ _ CB.out)
        go_simp
        refine hK.out _ _ ?hB91 (fun hHeld=>?_)
        case hB91=>(with_reducible exact keepL6 (Lib.hid ((Up.refl _).alloc _ _)) hHeld)
        clear hK K
        (try simp only [Act.put,stpA,stpB,stpC])
        refine wpAnyH_ready (rs:=[6]) (by kernel_rfl) (by simp) ?_
        refine AllReadyH.cons (o:=⟨_,_,_,_,_,_⟩) rfl (fun K hK=>?_) (AllReadyH.nil)
        go_simp
        (go_at_call 31;(with_reducible refine (KA.out xb _ hHeld.1 CB.out).mono ?_);have hlr_:=World.block_lt_of_cell? _ _ r_1_0;have hsz_:=hHeld.1.size;have htb_:=World.block_lt_of_cell? _ _ g0;rintro e w4 ⟨A5,n5,k5,rfl,hn5,hk5,hnw,hu,hM⟩;have HW:=Lib.hid (HW.out.trans hu);have HX:=Lib.hid (keepL6 (Lib.hid hu) hHeld);have r_1_0:=hu.keep _ _ _ r_1_0;have r_1_1:=hu.keep _ _ _ r_1_1;have r_1_2:=hu.keep _ _ _ r_1_2;have r_1_3:=hu.keep _ _ _ r_1_3;have r_1_4:=hu.keep _ _ _ r_1_4;have r_1_5:=hu.keep _ _ _ r_1_5;have g0:=hu.keep _ _ _ g0;have g1:=hu.keep _ _ _ g1;have g2:=hu.keep _ _ _ g2;have g3:=hu.keep _ _ _ g3;have g4:=hu.keep _ _ _ g4;have g5:=hu.keep _ _ _ g5;have g6:=hu.keep _ _ _ g6;have fz0:=HW.out.ownGe (g:=w3.heap.size) (by omega) 0;have fz1:=HW.out.ownGe (g:=w3.heap.size) (by omega) 1;have fz2:=HW.out.ownGe (g:=w3.heap.size) (by omega) 2;have fz3:=HW.out.ownGe (g:=w3.heap.size) (by omega) 3;have fz4:=HW.out.ownGe (g:=w3.heap.size) (by omega) 4;have fz5:=HW.out.ownGe (g:=w3.heap.size) (by omega) 5;have fz6:=HW.out.ownGe (g:=w3.heap.size) (by omega) 6;have HM5:=Lib.hid hM;have HNW:=Lib.hid hnw;clear hM hnw;clear hu)
        (try go_wp2_with fail)
        refine hK.out _ _ ?hB92 (fun hHeld=>?_)
        case hB92=>(with_reducible exact HX.out)
        clear hK K
        (try simp only [Act.put,stpA,stpB,stpC])
        refine takeT 7 rfl (by assumption) ?_
        (try simp only [Act.put,stpA,stpB,stpC])
        refine takeT 8 rfl (by assumption) ?_
        (try simp only [Act.put,stpA,stpB,stpC])
        refine takeT 9 rfl (by assumption) ?_
        (try simp only [Act.put,stpA,stpB,stpC])
        refine wpAnyH_ready (rs:=[11]) (by kernel_rfl) (by simp) ?_
        refine AllReadyH.cons (o:=⟨_,_,_,_,_,_⟩) rfl (fun K hK=>?_) (AllReadyH.nil)
        go_simp
        refine hK.out _ _ ?hB96 (fun hHeld=>?_)
        case hB96=>(with_reducible exact set7L6 hHeld (by omega) (by omega))
        clear hK K
        (try simp only [Act.put,stpA,stpB,stpC])
        refine takeT 12 rfl (by assumption) ?_
        (try simp only [Act.put,stpA,stpB,stpC])
        refine wpAnyH_done (by kernel_rfl) ?_ _
        obtain ⟨wa,hwa⟩:∃ z,z=((((((w4.setCell ⟨w3.heap.size,0,none⟩ (.int .i64 4)).setCell ⟨w3.heap.size,1,none⟩ (.int .i64 v)).setCell ⟨w3.heap.size,2,none⟩ (.int .i64 q)).setCell ⟨w3.heap.size,3,none⟩ (.int .i64 c)).setCell ⟨w3.heap.size,4,none⟩ (.int .i64 now)).setCell ⟨w3.heap.size,5,none⟩ (.int .i64 (seq+1))).setCell ⟨w3.heap.size,6,none⟩ (.slice A5 n5 k5):=⟨_,rfl⟩
        rw [← hwa]
        obtain ⟨g0_,g1_,g2_,g3_,g4_,g5_,g6_⟩:=cells7 (w:=w4) (p:=w3.heap.size) (v0:=.int .i64 4) (v1:=.int .i64 v) (v2:=.int .i64 q) (v3:=.int .i64 c) (v4:=.int .i64 now) (v5:=.int .i64 (seq+1)) (v6:=.slice A5 n5 k5) g0 g1 g2 g3 g4 g5 g6
        rw [← hwa] at g0_ g1_ g2_ g3_ g4_ g5_ g6_
        have r_1_0_:wa.cell? ⟨w.heap.size+1,0,none⟩=some (.int .i64 0):=by rw [hwa];exact far7 (w:=w4) r_1_0 (by omega)
        have r_1_1_:wa.cell? ⟨w.heap.size+1,1,none⟩=some (.int .i64 0):=by rw [hwa];exact far7 (w:=w4) r_1_1 (by omega)
        have r_1_2_:wa.cell? ⟨w.heap.size+1,2,none⟩=some (.int .i64 0):=by rw [hwa];exact far7 (w:=w4) r_1_2 (by omega)
        have r_1_3_:wa.cell? ⟨w.heap.size+1,3,none⟩=some (.int .i64 0):=by rw [hwa];exact far7 (w:=w4) r_1_3 (by omega)
        have r_1_4_:wa.cell? ⟨w.heap.size+1,4,none⟩=some (.int .i64 0):=by rw [hwa];exact far7 (w:=w4) r_1_4 (by omega)
        have r_1_5_:wa.cell? ⟨w.heap.size+1,5,none⟩=some (.slice none 0 0):=by rw [hwa];exact far7 (w:=w4) r_1_5 (by omega)
        have HW:=Lib.hid (show Up w wa by rw [hwa];exact HW.out.set7 (by omega))
        have HM:=Lib.hid (show SG cM wa A5 n5 Z by rw [hwa];exact HM5.out.off7 (fun b_ o_ h_=>by have:=HNW.out b_ o_ h_;omega) _ _ _ _ _ _ _)
        clear hwa HX HSS hHeld fz0 fz1 fz2 fz3 fz4 fz5 fz6 g0 g1 g2 g3 g4 g5 g6 r_1_0 r_1_1 r_1_2 r_1_3 r_1_4 r_1_5
        have g0:=g0_
        have g1:=g1_
        have g2:=g2_
        have g3:=g3_
        have g4:=g4_
        have g5:=g5_
        have g6:=g6_
        have r_1_0:=r_1_0_
        have r_1_1:=r_1_1_
        have r_1_2:=r_1_2_
        have r_1_3:=r_1_3_
        have r_1_4:=r_1_4_
        have r_1_5:=r_1_5_
        have hlra:=World.block_lt_of_cell? _ _ r_1_0
        go_wp2_with (go_at_call 28;(with_reducible refine (KF.out _ _ _ _).mono ?_);rintro e w5 ⟨rfl,hu⟩;have HW:=Lib.hid (HW.out.trans hu);have r_1_0:=hu.keep _ _ _ r_1_0;have r_1_1:=hu.keep _ _ _ r_1_1;have r_1_2:=hu.keep _ _ _ r_1_2;have r_1_3:=hu.keep _ _ _ r_1_3;have r_1_4:=hu.keep _ _ _ r_1_4;have r_1_5:=hu.keep _ _ _ r_1_5;have z0:=HW.out.ownGe (g:=w.heap.size+1) (by omega) 0;have z1:=HW.out.ownGe (g:=w.heap.size+1) (by omega) 1;have z2:=HW.out.ownGe (g:=w.heap.size+1) (by omega) 2;have z3:=HW.out.ownGe (g:=w.heap.size+1) (by omega) 3;have z4:=HW.out.ownGe (g:=w.heap.size+1) (by omega) 4;have z5:=HW.out.ownGe (g:=w.heap.size+1) (by omega) 5;have HM:=Lib.hid (HM.out.up hu);clear hu)
        refine bodyPost_ret (v:=.tuple #[.agg #[.int .i64 v,.int .i64 q,.int .i64 c,.int .i64 now,.int .i64 (seq+1),.slice A5 n5 k5],.int .i64 0]) (by simp [results,Tryz.results9,go_sem,r_1_0,r_1_1,r_1_2,r_1_3,r_1_4,r_1_5]) rfl ⟨A5,n5,k5,rfl,hn5,hk5,fun b_ o_ h_=>Nat.le_trans hsz_ (HNW.out b_ o_ h_),?_,?_⟩
        · exact HW.out.setP6 (by omega)
        · exact HM.out.offP6 (fun b_ o_ h_=>by have:=HNW.out b_ o_ h_;omega) _ _ _ _ _ _
    · have hlt_:w.heap.size+1<w2.heap.size:=World.block_lt_of_cell? _ _ r_1_0
      have g0:(w2.alloc (.cells #[.int .i64 0,.int .i64 0,.int .i64 0,.int .i64 0,.int .i64 0,.int .i64 0,.slice none 0 0] 58)).cell? ⟨w2.heap.size,0,none⟩=some (.int .i64 0):=by simp [go_sem]
      have g1:(w2.alloc (.cells #[.int .i64 0,.int .i64 0,.int .i64 0,.int .i64 0,.int .i64 0,.int .i64 0,.slice none 0 0] 58)).cell? ⟨w2.heap.size,1,none⟩=some (.int .i64 0):=by simp [go_sem]
      have g2:(w2.alloc (.cells #[.int .i64 0,.int .i64 0,.int .i64 0,.int .i64 0,.int .i64 0,.int .i64 0,.slice none 0 0] 58)).cell? ⟨w2.heap.size,2,none⟩=some (.int .i64 0):=by simp [go_sem]
      have g3:(w2.alloc (.cells #[.int .i64 0,.int .i64 0,.int .i64 0,.int .i64 0,.int .i64 0,.int .i64 0,.slice none 0 0] 58)).cell? ⟨w2.heap.size,3,none⟩=some (.int .i64 0):=by simp [go_sem]
      have g4:(w2.alloc (.cells #[.int .i64 0,.int .i64 0,.int .i64 0,.int .i64 0,.int .i64 0,.int .i64 0,.slice none 0 0] 58)).cell? ⟨w2.heap.size,4,none⟩=some (.int .i64 0):=by simp [go_sem]
      have g5:(w2.alloc (.cells #[.int .i64 0,.int .i64 0,.int .i64 0,.int .i64 0,.int .i64 0,.int .i64 0,.slice none 0 0] 58)).cell? ⟨w2.heap.size,5,none⟩=some (.int .i64 0):=by simp [go_sem]
      have g6:(w2.alloc (.cells #[.int .i64 0,.int .i64 0,.int .i64 0,.int .i64 0,.int .i64 0,.int .i64 0,.slice none 0 0] 58)).cell? ⟨w2.heap.size,6,none⟩=some (.slice none 0 0):=by simp [go_sem]
      have r_1_0:=((Up.refl w2).alloc #[.int .i64 0,.int .i64 0,.int .i64 0,.int .i64 0,.int .i64 0,.int .i64 0,.slice none 0 0] 58).keep _ _ _ r_1_0
      have r_1_1:=((Up.refl w2).alloc #[.int .i64 0,.int .i64 0,.int .i64 0,.int .i64 0,.int .i64 0,.int .i64 0,.slice none 0 0] 58).keep _ _ _ r_1_1
      have r_1_2:=((Up.refl w2).alloc #[.int .i64 0,.int .i64 0,.int .i64 0,.int .i64 0,.int .i64 0,.int .i64 0,.slice none 0 0] 58).keep _ _ _ r_1_2
      have r_1_3:=((Up.refl w2).alloc #[.int .i64 0,.int .i64 0,.int .i64 0,.int .i64 0,.int .i64 0,.int .i64 0,.slice none 0 0] 58).keep _ _ _ r_1_3
      have r_1_4:=((Up.refl w2).alloc #[.int .i64 0,.int .i64 0,.int .i64 0,.int .i64 0,.int .i64 0,.int .i64 0,.slice none 0 0] 58).keep _ _ _ r_1_4
      have r_1_5:=((Up.refl w2).alloc #[.int .i64 0,.int .i64 0,.int .i64 0,.int .i64 0,.int .i64 0,.int .i64 0,.slice none 0 0] 58).keep _ _ _ r_1_5
      have HW:=Lib.hid (HW.out.alloc #[.int .i64 0,.int .i64 0,.int .i64 0,.int .i64 0,.int .i64 0,.int .i64 0,.slice none 0 0] 58)
      go_simp
      refine hK.out _ _ ?hB98 (fun hHeld=>?_)
      case hB98=>(with_reducible exact keepL6 (Lib.hid ((Up.refl _).alloc _ _)) hHeld)
      clear hK K
      (try simp only [Act.put,stpA,stpB,stpC])
      refine wpAnyH_ready (rs:=[5]) (by kernel_rfl) (by simp) ?_
      refine AllReadyH.cons (o:=⟨_,_,_,_,_,_⟩) rfl (fun K hK=>?_) (AllReadyH.nil)
      go_simp
      (go_at_call 32;(with_reducible refine (KN.out _).mono ?_);rintro e w3 ⟨xb,rfl,hu,cb⟩;have HW:=Lib.hid (HW.out.trans hu);have HX:=Lib.hid (keepL6 (Lib.hid hu) hHeld);have r_1_0:=hu.keep _ _ _ r_1_0;have r_1_1:=hu.keep _ _ _ r_1_1;have r_1_2:=hu.keep _ _ _ r_1_2;have r_1_3:=hu.keep _ _ _ r_1_3;have r_1_4:=hu.keep _ _ _ r_1_4;have r_1_5:=hu.keep _ _ _ r_1_5;have g0:=hu.keep _ _ _ g0;have g1:=hu.keep _ _ _ g1;have g2:=hu.keep _ _ _ g2;have g3:=hu.keep _ _ _ g3;have g4:=hu.keep _ _ _ g4;have g5:=hu.keep _ _ _ g5;have g6:=hu.keep _ _ _ g6;have fz0:=HW.out.ownGe (g:=w2.heap.size) (by omega) 0;have fz1:=HW.out.ownGe (g:=w2.heap.size) (by omega) 1;have fz2:=HW.out.ownGe (g:=w2.heap.size) (by omega) 2;have fz3:=HW.out.ownGe (g:=w2.heap.size) (by omega) 3;have fz4:=HW.out.ownGe (g:=w2.heap.size) (by omega) 4;have fz5:=HW.out.ownGe (g:=w2.heap.size) (by omega) 5;have fz6:=HW.out.ownGe (g:=w2.heap.size) (by omega) 6;have CB:=Lib.hid cb;clear cb;clear hu)
      (try go_wp2_with fail)
      refine hK.out _ _ ?hB99 (fun hHeld=>?_)
      case hB99=>(with_reducible exact HX.out)
      clear hK K
      (try simp only [Act.put,stpA,stpB,stpC])
      refine wpAnyH_ready (rs:=[6]) (by kernel_rfl) (by simp) ?_
      refine AllReadyH.cons (o:=⟨_,_,_,_,_,_⟩) rfl (fun K hK=>?_) (AllReadyH.nil)
      go_simp
      (go_at_call 31;(with_reducible refine (KA.out xb _ hHeld.1 CB.out).mono ?_);have hlr_:=World.block_lt_of_cell? _ _ r_1_0;have hsz_:=hHeld.1.size;have htb_:=World.block_lt_of_cell? _ _ g0;rintro e w4 ⟨A5,n5,k5,rfl,hn5,hk5,hnw,hu,hM⟩;have HW:=Lib.hid (HW.out.trans hu);have HX:=Lib.hid (keepL6 (Lib.hid hu) hHeld);have r_1_0:=hu.keep _ _ _ r_1_0;have r_1_1:=hu.keep _ _ _ r_1_1;have r_1_2:=hu.keep _ _ _ r_1_2;have r_1_3:=hu.keep _ _ _ r_1_3;have r_1_4:=hu.keep _ _ _ r_1_4;have r_1_5:=hu.keep _ _ _ r_1_5;have g0:=hu.keep _ _ _ g0;have g1:=hu.keep _ _ _ g1;have g2:=hu.keep _ _ _ g2;have g3:=hu.keep _ _ _ g3;have g4:=hu.keep _ _ _ g4;have g5:=hu.keep _ _ _ g5;have g6:=hu.keep _ _ _ g6;have fz0:=HW.out.ownGe (g:=w2.heap.size) (by omega) 0;have fz1:=HW.out.ownGe (g:=w2.heap.size) (by omega) 1;have fz2:=HW.out.ownGe (g:=w2.heap.size) (by omega) 2;have fz3:=HW.out.ownGe (g:=w2.heap.size) (by omega) 3;have fz4:=HW.out.ownGe (g:=w2.heap.size) (by omega) 4;have fz5:=HW.out.ownGe (g:=w2.heap.size) (by omega) 5;have fz6:=HW.out.ownGe (g:=w2.heap.size) (by omega) 6;have HM5:=Lib.hid hM;have HNW:=Lib.hid hnw;clear hM hnw;clear hu)
      (try go_wp2_with fail)
      refine hK.out _ _ ?hB100 (fun hHeld=>?_)
      case hB100=>(with_reducible exact HX.out)
      clear hK K
      (try simp only [Act.put,stpA,stpB,stpC])
      refine takeT 7 rfl (by assumption) ?_
      (try simp only [Act.put,stpA,stpB,stpC])
      refine takeT 8 rfl (by assumption) ?_
      (try simp only [Act.put,stpA,stpB,stpC])
      refine takeT 9 rfl (by assumption) ?_
      (try simp only [Act.put,stpA,stpB,stpC])
      refine wpAnyH_ready (rs:=[11]) (by kernel_rfl) (by simp) ?_
      refine AllReadyH.cons (o:=⟨_,_,_,_,_,_⟩) rfl (fun K hK=>?_) (AllReadyH.nil)
      go_simp
      refine hK.out _ _ ?hB104 (fun hHeld=>?_)
      case hB104=>(with_reducible exact set7L6 hHeld (by omega) (by omega))
      clear hK K
      (try simp only [Act.put,stpA,stpB,stpC])
      refine takeT 12 rfl (by assumption) ?_
      (try simp only [Act.put,stpA,stpB,stpC])
      refine wpAnyH_done (by kernel_rfl) ?_ _
      obtain ⟨wa,hwa⟩:∃ z,z=((((((w4.setCell ⟨w2.heap.size,0,none⟩ (.int .i64 4)).setCell ⟨w2.heap.size,1,none⟩ (.int .i64 v)).setCell ⟨w2.heap.size,2,none⟩ (.int .i64 q)).setCell ⟨w2.heap.size,3,none⟩ (.int .i64 c)).setCell ⟨w2.heap.size,4,none⟩ (.int .i64 now)).setCell ⟨w2.heap.size,5,none⟩ (.int .i64 (seq+1))).setCell ⟨w2.heap.size,6,none⟩ (.slice A5 n5 k5):=⟨_,rfl⟩
      rw [← hwa]
      obtain ⟨g0_,g1_,g2_,g3_,g4_,g5_,g6_⟩:=cells7 (w:=w4) (p:=w2.heap.size) (v0:=.int .i64 4) (v1:=.int .i64 v) (v2:=.int .i64 q) (v3:=.int .i64 c) (v4:=.int .i64 now) (v5:=.int .i64 (seq+1)) (v6:=.slice A5 n5 k5) g0 g1 g2 g3 g4 g5 g6
      rw [← hwa] at g0_ g1_ g2_ g3_ g4_ g5_ g6_
      have r_1_0_:wa.cell? ⟨w.heap.size+1,0,none⟩=some (.int .i64 0):=by rw [hwa];exact far7 (w:=w4) r_1_0 (by omega)
      have r_1_1_:wa.cell? ⟨w.heap.size+1,1,none⟩=some (.int .i64 0):=by rw [hwa];exact far7 (w:=w4) r_1_1 (by omega)
      have r_1_2_:wa.cell? ⟨w.heap.size+1,2,none⟩=some (.int .i64 0):=by rw [hwa];exact far7 (w:=w4) r_1_2 (by omega)
      have r_1_3_:wa.cell? ⟨w.heap.size+1,3,none⟩=some (.int .i64 0):=by rw [hwa];exact far7 (w:=w4) r_1_3 (by omega)
      have r_1_4_:wa.cell? ⟨w.heap.size+1,4,none⟩=some (.int .i64 0):=by rw [hwa];exact far7 (w:=w4) r_1_4 (by omega)
      have r_1_5_:wa.cell? ⟨w.heap.size+1,5,none⟩=some (.slice none 0 0):=by rw [hwa];exact far7 (w:=w4) r_1_5 (by omega)
      have HW:=Lib.hid (show Up w wa by rw [hwa];exact HW.out.set7 (by omega))
      have HM:=Lib.hid (show SG cM wa A5 n5 Z by rw [hwa];exact HM5.out.off7 (fun b_ o_ h_=>by have:=HNW.out b_ o_ h_;omega) _ _ _ _ _ _ _)
      clear hwa HX HSS hHeld fz0 fz1 fz2 fz3 fz4 fz5 fz6 g0 g1 g2 g3 g4 g5 g6 r_1_0 r_1_1 r_1_2 r_1_3 r_1_4 r_1_5
      have g0:=g0_
      have g1:=g1_
      have g2:=g2_
      have g3:=g3_
      have g4:=g4_
      have g5:=g5_
      have g6:=g6_
      have r_1_0:=r_1_0_
      have r_1_1:=r_1_1_
      have r_1_2:=r_1_2_
      have r_1_3:=r_1_3_
      have r_1_4:=r_1_4_
      have r_1_5:=r_1_5_
      have hlra:=World.block_lt_of_cell? _ _ r_1_0
      go_wp2_with (go_at_call 28;(with_reducible refine (KF.out _ _ _ _).mono ?_);rintro e w5 ⟨rfl,hu⟩;have HW:=Lib.hid (HW.out.trans hu);have r_1_0:=hu.keep _ _ _ r_1_0;have r_1_1:=hu.keep _ _ _ r_1_1;have r_1_2:=hu.keep _ _ _ r_1_2;have r_1_3:=hu.keep _ _ _ r_1_3;have r_1_4:=hu.keep _ _ _ r_1_4;have r_1_5:=hu.keep _ _ _ r_1_5;have z0:=HW.out.ownGe (g:=w.heap.size+1) (by omega) 0;have z1:=HW.out.ownGe (g:=w.heap.size+1) (by omega) 1;have z2:=HW.out.ownGe (g:=w.heap.size+1) (by omega) 2;have z3:=HW.out.ownGe (g:=w.heap.size+1) (by omega) 3;have z4:=HW.out.ownGe (g:=w.heap.size+1) (by omega) 4;have z5:=HW.out.ownGe (g:=w.heap.size+1) (by omega) 5;have HM:=Lib.hid (HM.out.up hu);clear hu)
      refine bodyPost_ret (v:=.tuple #[.agg #[.int .i64 v,.int .i64 q,.int .i64 c,.int .i64 now,.int .i64 (seq+1),.slice A5 n5 k5],.int .i64 0]) (by simp [results,Tryz.results9,go_sem,r_1_0,r_1_1,r_1_2,r_1_3,r_1_4,r_1_5]) rfl ⟨A5,n5,k5,rfl,hn5,hk5,fun b_ o_ h_=>Nat.le_trans hsz_ (HNW.out b_ o_ h_),?_,?_⟩
      · exact HW.out.setP6 (by omega)
      · exact HM.out.offP6 (fun b_ o_ h_=>by have:=HNW.out b_ o_ h_;omega) _ _ _ _ _ _
  · have hlt_:w.heap.size+1<w1.heap.size:=World.block_lt_of_cell? _ _ r_1_0
    have g0:(w1.alloc (.cells #[.int .i64 0,.int .i64 0,.int .i64 0,.int .i64 0,.int .i64 0,.int .i64 0,.slice none 0 0] 58)).cell? ⟨w1.heap.size,0,none⟩=some (.int .i64 0):=by simp [go_sem]
    have g1:(w1.alloc (.cells #[.int .i64 0,.int .i64 0,.int .i64 0,.int .i64 0,.int .i64 0,.int .i64 0,.slice none 0 0] 58)).cell? ⟨w1.heap.size,1,none⟩=some (.int .i64 0):=by simp [go_sem]
    have g2:(w1.alloc (.cells #[.int .i64 0,.int .i64 0,.int .i64 0,.int .i64 0,.int .i64 0,.int .i64 0,.slice none 0 0] 58)).cell? ⟨w1.heap.size,2,none⟩=some (.int .i64 0):=by simp [go_sem]
    have g3:(w1.alloc (.cells #[.int .i64 0,.int .i64 0,.int .i64 0,.int .i64 0,.int .i64 0,.int .i64 0,.slice none 0 0] 58)).cell? ⟨w1.heap.size,3,none⟩=some (.int .i64 0):=by simp [go_sem]
    have g4:(w1.alloc (.cells #[.int .i64 0,.int .i64 0,.int .i64 0,.int .i64 0,.int .i64 0,.int .i64 0,.slice none 0 0] 58)).cell? ⟨w1.heap.size,4,none⟩=some (.int .i64 0):=by simp [go_sem]
    have g5:(w1.alloc (.cells #[.int .i64 0,.int .i64 0,.int .i64 0,.int .i64 0,.int .i64 0,.int .i64 0,.slice none 0 0] 58)).cell? ⟨w1.heap.size,5,none⟩=some (.int .i64 0):=by simp [go_sem]
    have g6:(w1.alloc (.cells #[.int .i64 0,.int .i64 0,.int .i64 0,.int .i64 0,.int .i64 0,.int .i64 0,.slice none 0 0] 58)).cell? ⟨w1.heap.size,6,none⟩=some (.slice none 0 0):=by simp [go_sem]
    have r_1_0:=((Up.refl w1).alloc #[.int .i64 0,.int .i64 0,.int .i64 0,.int .i64 0,.int .i64 0,.int .i64 0,.slice none 0 0] 58).keep _ _ _ r_1_0
    have r_1_1:=((Up.refl w1).alloc #[.int .i64 0,.int .i64 0,.int .i64 0,.int .i64 0,.int .i64 0,.int .i64 0,.slice none 0 0] 58).keep _ _ _ r_1_1
    have r_1_2:=((Up.refl w1).alloc #[.int .i64 0,.int .i64 0,.int .i64 0,.int .i64 0,.int .i64 0,.int .i64 0,.slice none 0 0] 58).keep _ _ _ r_1_2
    have r_1_3:=((Up.refl w1).alloc #[.int .i64 0,.int .i64 0,.int .i64 0,.int .i64 0,.int .i64 0,.int .i64 0,.slice none 0 0] 58).keep _ _ _ r_1_3
    have r_1_4:=((Up.refl w1).alloc #[.int .i64 0,.int .i64 0,.int .i64 0,.int .i64 0,.int .i64 0,.int .i64 0,.slice none 0 0] 58).keep _ _ _ r_1_4
    have r_1_5:=((Up.refl w1).alloc #[.int .i64 0,.int .i64 0,.int .i64 0,.int .i64 0,.int .i64 0,.int .i64 0,.slice none 0 0] 58).keep _ _ _ r_1_5
    have HW:=Lib.hid (HW.out.alloc #[.int .i64 0,.int .i64 0,.int .i64 0,.int .i64 0,.int .i64 0,.int .i64 0,.slice none 0 0] 58)
    go_simp
    refine hK.out _ _ ?hB106 (fun hHeld=>?_)
    case hB106=>(with_reducible exact keepL6 (Lib.hid ((Up.refl _).alloc _ _)) hHeld)
    clear hK K
    (try simp only [Act.put,stpA,stpB,stpC])
    refine wpAnyH_ready (rs:=[1]) (by kernel_rfl) (by simp) ?_
    refine AllReadyH.cons (o:=⟨_,_,_,_,_,_⟩) rfl (fun K hK=>?_) (AllReadyH.nil)
    go_simp
    (go_at_call 27;(with_reducible refine (KT.out _).mono ?_);rintro e w2 ⟨rfl,hu⟩;have HW:=Lib.hid (HW.out.trans hu);have HX:=Lib.hid (keepL6 (Lib.hid hu) hHeld);have r_1_0:=hu.keep _ _ _ r_1_0;have r_1_1:=hu.keep _ _ _ r_1_1;have r_1_2:=hu.keep _ _ _ r_1_2;have r_1_3:=hu.keep _ _ _ r_1_3;have r_1_4:=hu.keep _ _ _ r_1_4;have r_1_5:=hu.keep _ _ _ r_1_5;have g0:=hu.keep _ _ _ g0;have g1:=hu.keep _ _ _ g1;have g2:=hu.keep _ _ _ g2;have g3:=hu.keep _ _ _ g3;have g4:=hu.keep _ _ _ g4;have g5:=hu.keep _ _ _ g5;have g6:=hu.keep _ _ _ g6;have fz0:=HW.out.ownGe (g:=w1.heap.size) (by omega) 0;have fz1:=HW.out.ownGe (g:=w1.heap.size) (by omega) 1;have fz2:=HW.out.ownGe (g:=w1.heap.size) (by omega) 2;have fz3:=HW.out.ownGe (g:=w1.heap.size) (by omega) 3;have fz4:=HW.out.ownGe (g:=w1.heap.size) (by omega) 4;have fz5:=HW.out.ownGe (g:=w1.heap.size) (by omega) 5;have fz6:=HW.out.ownGe (g:=w1.heap.size) (by omega) 6;clear hu)
    (try go_wp2_with fail)
    refine hK.out _ _ ?hB107 (fun hHeld=>?_)
    case hB107=>(with_reducible exact HX.out)
    clear hK K
    (try simp only [Act.put,stpA,stpB,stpC])
    refine wpAnyH_ready (rs:=[5]) (by kernel_rfl) (by simp) ?_
    refine AllReadyH.cons (o:=⟨_,_,_,_,_,_⟩) rfl (fun K hK=>?_) (AllReadyH.nil)
    go_simp
    (go_at_call 32;(with_reducible refine (KN.out _).mono ?_);rintro e w3 ⟨xb,rfl,hu,cb⟩;have HW:=Lib.hid (HW.out.trans hu);have HX:=Lib.hid (keepL6 (Lib.hid hu) hHeld);have r_1_0:=hu.keep _ _ _ r_1_0;have r_1_1:=hu.keep _ _ _ r_1_1;have r_1_2:=hu.keep _ _ _ r_1_2;have r_1_3:=hu.keep _ _ _ r_1_3;have r_1_4:=hu.keep _ _ _ r_1_4;have r_1_5:=hu.keep _ _ _ r_1_5;have g0:=hu.keep _ _ _ g0;have g1:=hu.keep _ _ _ g1;have g2:=hu.keep _ _ _ g2;have g3:=hu.keep _ _ _ g3;have g4:=hu.keep _ _ _ g4;have g5:=hu.keep _ _ _ g5;have g6:=hu.keep _ _ _ g6;have fz0:=HW.out.ownGe (g:=w1.heap.size) (by omega) 0;have fz1:=HW.out.ownGe (g:=w1.heap.size) (by omega) 1;have fz2:=HW.out.ownGe (g:=w1.heap.size) (by omega) 2;have fz3:=HW.out.ownGe (g:=w1.heap.size) (by omega) 3;have fz4:=HW.out.ownGe (g:=w1.heap.size) (by omega) 4;have fz5:=HW.out.ownGe (g:=w1.heap.size) (by omega) 5;have fz6:=HW.out.ownGe (g:=w1.heap.size) (by omega) 6;have CB:=Lib.hid cb;clear cb;clear hu)
    (try go_wp2_with fail)
    refine hK.out _ _ ?hB108 (fun hHeld=>?_)
    case hB108=>(with_reducible exact HX.out)
    clear hK K
    (try simp only [Act.put,stpA,stpB,stpC])
    refine wpAnyH_ready (rs:=[6]) (by kernel_rfl) (by simp) ?_
    refine AllReadyH.cons (o:=⟨_,_,_,_,_,_⟩) rfl (fun K hK=>?_) (AllReadyH.nil)
    go_simp
    (go_at_call 31;(with_reducible refine (KA.out xb _ hHeld.1 CB.out).mono ?_);have hlr_:=World.block_lt_of_cell? _ _ r_1_0;have hsz_:=hHeld.1.size;have htb_:=World.block_lt_of_cell? _ _ g0;rintro e w4 ⟨A5,n5,k5,rfl,hn5,hk5,hnw,hu,hM⟩;have HW:=Lib.hid (HW.out.trans hu);have HX:=Lib.hid (keepL6 (Lib.hid hu) hHeld);have r_1_0:=hu.keep _ _ _ r_1_0;have r_1_1:=hu.keep _ _ _ r_1_1;have r_1_2:=hu.keep _ _ _ r_1_2;have r_1_3:=hu.keep _ _ _ r_1_3;have r_1_4:=hu.keep _ _ _ r_1_4;have r_1_5:=hu.keep _ _ _ r_1_5;have g0:=hu.keep _ _ _ g0;have g1:=hu.keep _ _ _ g1;have g2:=hu.keep _ _ _ g2;have g3:=hu.keep _ _ _ g3;have g4:=hu.keep _ _ _ g4;have g5:=hu.keep _ _ _ g5;have g6:=hu.keep _ _ _ g6;have fz0:=HW.out.ownGe (g:=w1.heap.size) (by omega) 0;have fz1:=HW.out.ownGe (g:=w1.heap.size) (by omega) 1;have fz2:=HW.out.ownGe (g:=w1.heap.size) (by omega) 2;have fz3:=HW.out.ownGe (g:=w1.heap.size) (by omega) 3;have fz4:=HW.out.ownGe (g:=w1.heap.size) (by omega) 4;have fz5:=HW.out.ownGe (g:=w1.heap.size) (by omega) 5;have fz6:=HW.out.ownGe (g:=w1.heap.size) (by omega) 6;have HM5:=Lib.hid hM;have HNW:=Lib.hid hnw;clear hM hnw;clear hu)
    (try go_wp2_with fail)
    refine hK.out _ _ ?hB109 (fun hHeld=>?_)
    case hB109=>(with_reducible exact HX.out)
    clear hK K
    (try simp only [Act.put,stpA,stpB,stpC])
    refine takeT 7 rfl (by assumption) ?_
    (try simp only [Act.put,stpA,stpB,stpC])
    refine takeT 8 rfl (by assumption) ?_
    (try simp only [Act.put,stpA,stpB,stpC])
    refine takeT 9 rfl (by assumption) ?_
    (try simp only [Act.put,stpA,stpB,stpC])
    refine wpAnyH_ready (rs:=[11]) (by kernel_rfl) (by simp) ?_
    refine AllReadyH.cons (o:=⟨_,_,_,_,_,_⟩) rfl (fun K hK=>?_) (AllReadyH.nil)
    go_simp
    refine hK.out _ _ ?hB113 (fun hHeld=>?_)
    case hB113=>(with_reducible exact set7L6 hHeld (by omega) (by omega))
    clear hK K
    (try simp only [Act.put,stpA,stpB,stpC])
    refine takeT 12 rfl (by assumption) ?_
    (try simp only [Act.put,stpA,stpB,stpC])
    refine wpAnyH_done (by kernel_rfl) ?_ _
    obtain ⟨wa,hwa⟩:∃ z,z=((((((w4.setCell ⟨w1.heap.size,0,none⟩ (.int .i64 4)).setCell ⟨w1.heap.size,1,none⟩ (.int .i64 v)).setCell ⟨w1.heap.size,2,none⟩ (.int .i64 q)).setCell ⟨w1.heap.size,3,none⟩ (.int .i64 c)).setCell ⟨w1.heap.size,4,none⟩ (.int .i64 now)).setCell ⟨w1.heap.size,5,none⟩ (.int .i64 (seq+1))).setCell ⟨w1.heap.size,6,none⟩ (.slice A5 n5 k5):=⟨_,rfl⟩
    rw [← hwa]
    obtain ⟨g0_,g1_,g2_,g3_,g4_,g5_,g6_⟩:=cells7 (w:=w4) (p:=w1.heap.size) (v0:=.int .i64 4) (v1:=.int .i64 v) (v2:=.int .i64 q) (v3:=.int .i64 c) (v4:=.int .i64 now) (v5:=.int .i64 (seq+1)) (v6:=.slice A5 n5 k5) g0 g1 g2 g3 g4 g5 g6
    rw [← hwa] at g0_ g1_ g2_ g3_ g4_ g5_ g6_
    have r_1_0_:wa.cell? ⟨w.heap.size+1,0,none⟩=some (.int .i64 0):=by rw [hwa];exact far7 (w:=w4) r_1_0 (by omega)
    have r_1_1_:wa.cell? ⟨w.heap.size+1,1,none⟩=some (.int .i64 0):=by rw [hwa];exact far7 (w:=w4) r_1_1 (by omega)
    have r_1_2_:wa.cell? ⟨w.heap.size+1,2,none⟩=some (.int .i64 0):=by rw [hwa];exact far7 (w:=w4) r_1_2 (by omega)
    have r_1_3_:wa.cell? ⟨w.heap.size+1,3,none⟩=some (.int .i64 0):=by rw [hwa];exact far7 (w:=w4) r_1_3 (by omega)
    have r_1_4_:wa.cell? ⟨w.heap.size+1,4,none⟩=some (.int .i64 0):=by rw [hwa];exact far7 (w:=w4) r_1_4 (by omega)
    have r_1_5_:wa.cell? ⟨w.heap.size+1,5,none⟩=some (.slice none 0 0):=by rw [hwa];exact far7 (w:=w4) r_1_5 (by omega)
    have HW:=Lib.hid (show Up w wa by rw [hwa];exact HW.out.set7 (by omega))
    have HM:=Lib.hid (show SG cM wa A5 n5 Z by rw [hwa];exact HM5.out.off7 (fun b_ o_ h_=>by have:=HNW.out b_ o_ h_;omega) _ _ _ _ _ _ _)
    clear hwa HX HSS hHeld fz0 fz1 fz2 fz3 fz4 fz5 fz6 g0 g1 g2 g3 g4 g5 g6 r_1_0 r_1_1 r_1_2 r_1_3 r_1_4 r_1_5
    have g0:=g0_
    have g1:=g1_
    have g2:=g2_
    have g3:=g3_
    have g4:=g4_
    have g5:=g5_
    have g6:=g6_
    have r_1_0:=r_1_0_
    have r_1_1:=r_1_1_
    have r_1_2:=r_1_2_
    have r_1_3:=r_1_3_
    have r_1_4:=r_1_4_
    have r_1_5:=r_1_5_
    have hlra:=World.block_lt_of_cell? _ _ r_1_0
    go_wp2_with (go_at_call 28;(with_reducible refine (KF.out _ _ _ _).mono ?_);rintro e w5 ⟨rfl,hu⟩;have HW:=Lib.hid (HW.out.trans hu);have r_1_0:=hu.keep _ _ _ r_1_0;have r_1_1:=hu.keep _ _ _ r_1_1;have r_1_2:=hu.keep _ _ _ r_1_2;have r_1_3:=hu.keep _ _ _ r_1_3;have r_1_4:=hu.keep _ _ _ r_1_4;have r_1_5:=hu.keep _ _ _ r_1_5;have z0:=HW.out.ownGe (g:=w.heap.size+1) (by omega) 0;have z1:=HW.out.ownGe (g:=w.heap.size+1) (by omega) 1;have z2:=HW.out.ownGe (g:=w.heap.size+1) (by omega) 2;have z3:=HW.out.ownGe (g:=w.heap.size+1) (by omega) 3;have z4:=HW.out.ownGe (g:=w.heap.size+1) (by omega) 4;have z5:=HW.out.ownGe (g:=w.heap.size+1) (by omega) 5;have HM:=Lib.hid (HM.out.up hu);clear hu)
    refine bodyPost_ret (v:=.tuple #[.agg #[.int .i64 v,.int .i64 q,.int .i64 c,.int .i64 now,.int .i64 (seq+1),.slice A5 n5 k5],.int .i64 0]) (by simp [results,Tryz.results9,go_sem,r_1_0,r_1_1,r_1_2,r_1_3,r_1_4,r_1_5]) rfl ⟨A5,n5,k5,rfl,hn5,hk5,fun b_ o_ h_=>Nat.le_trans hsz_ (HNW.out b_ o_ h_),?_,?_⟩
    · exact HW.out.setP6 (by omega)
    · exact HM.out.offP6 (fun b_ o_ h_=>by have:=HNW.out b_ o_ h_;omega) _ _ _ _ _ _

end Go.Proofs.YtafkoddgefcpnaaGreat
