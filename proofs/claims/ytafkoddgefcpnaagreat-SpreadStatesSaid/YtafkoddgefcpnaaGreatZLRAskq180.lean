/- The reference of layer 14: Ask. -/
import Derived.Test.YtafkoddgefcpnaaGreatRows
import Derived.Test.YtafkoddgefcpnaaGreatZLAdvq171
import Derived.Test.YtafkoddgefcpnaaGreatZLAskq179
namespace Go.Proofs.YtafkoddgefcpnaaGreat
open Go.RowKit
set_option linter.unusedVariables false

theorem keepL7 {w w1 w2:World} {b0 o0 b1 o1 b2 o2 b3 o3 b4 o4 b5 o5 b6 o6:Nat} {x0 x1 x2 x3 x4 x5 x6:Value} (hu:Hid (Up w1 w2)) (h:Up w w1∧w1.cell? ⟨b0,o0,none⟩=some x0∧w1.cell? ⟨b1,o1,none⟩=some x1∧w1.cell? ⟨b2,o2,none⟩=some x2∧w1.cell? ⟨b3,o3,none⟩=some x3∧w1.cell? ⟨b4,o4,none⟩=some x4∧w1.cell? ⟨b5,o5,none⟩=some x5∧w1.cell? ⟨b6,o6,none⟩=some x6):Up w w2∧w2.cell? ⟨b0,o0,none⟩=some x0∧w2.cell? ⟨b1,o1,none⟩=some x1∧w2.cell? ⟨b2,o2,none⟩=some x2∧w2.cell? ⟨b3,o3,none⟩=some x3∧w2.cell? ⟨b4,o4,none⟩=some x4∧w2.cell? ⟨b5,o5,none⟩=some x5∧w2.cell? ⟨b6,o6,none⟩=some x6 :=
  ⟨h.1.trans hu.out,hu.out.keep _ _ _ h.2.1,hu.out.keep _ _ _ h.2.2.1,hu.out.keep _ _ _ h.2.2.2.1,hu.out.keep _ _ _ h.2.2.2.2.1,hu.out.keep _ _ _ h.2.2.2.2.2.1,hu.out.keep _ _ _ h.2.2.2.2.2.2.1,hu.out.keep _ _ _ h.2.2.2.2.2.2.2⟩
theorem keepL3 {w w1 w2:World} {b0 o0 b1 o1 b2 o2:Nat} {x0 x1 x2:Value} (hu:Hid (Up w1 w2)) (h:Up w w1∧w1.cell? ⟨b0,o0,none⟩=some x0∧w1.cell? ⟨b1,o1,none⟩=some x1∧w1.cell? ⟨b2,o2,none⟩=some x2):Up w w2∧w2.cell? ⟨b0,o0,none⟩=some x0∧w2.cell? ⟨b1,o1,none⟩=some x1∧w2.cell? ⟨b2,o2,none⟩=some x2 :=
  ⟨h.1.trans hu.out,hu.out.keep _ _ _ h.2.1,hu.out.keep _ _ _ h.2.2.1,hu.out.keep _ _ _ h.2.2.2⟩
set_option maxHeartbeats 4000000 in
set_option maxRecDepth 100000 in
theorem rask14_bad (v q c now seq:Int) (n k:Nat) (A:Option Addr) (X:List Mrk) (hn:n≤50000) (hv:stP v q c now seq X=false) (w:World) (hS:SG cM w A n X) :
    Calls Tryz.prog 12 #[.agg #[.int .i64 v,.int .i64 q,.int .i64 c,.int .i64 now,.int .i64 seq,.slice A n k]] w fun e w'=>e=.returned (.tuple #[.agg #[.int .i64 0,.int .i64 0,.int .i64 0,.int .i64 0,.int .i64 0,.int .i64 0],.int .i64 2])∧Up w w':=by
  have KV:=Lib.hid (fun W (h:SG cM W A n X)=>rvalidate14_up v q c now seq n k A X hn W h)
  rw [stPE_no hv] at KV
  have HS:=Lib.hid hS
  clear hS hv
  go_enter Tryz.func12,Tryz.ntmps12
  go_wp2_with (first
    | (go_at_call 14;(with_reducible refine (KV.out _ (HS.out.up (((Up.refl w).alloc _ _).alloc _ _))).mono ?_);rintro e w1 ⟨rfl,hu⟩;have hv:=(((Up.refl w).alloc #[.int .i64 v,.int .i64 q,.int .i64 c,.int .i64 now,.int .i64 seq,.slice A n k] 24).alloc #[.int .i64 0,.int .i64 0,.int .i64 0,.int .i64 0,.int .i64 0,.int .i64 0] 33).trans hu;have HV1:=Lib.hid hv;have HU1:=Lib.hid ((Up.refl w).trans hv);have a_1_0:=hu.keep (w.heap.size) 0 (.int .i64 v) (by simp [go_sem]);have a_1_1:=hu.keep (w.heap.size) 1 (.int .i64 q) (by simp [go_sem]);have a_1_2:=hu.keep (w.heap.size) 2 (.int .i64 c) (by simp [go_sem]);have a_1_3:=hu.keep (w.heap.size) 3 (.int .i64 now) (by simp [go_sem]);have a_1_4:=hu.keep (w.heap.size) 4 (.int .i64 seq) (by simp [go_sem]);have a_1_5:=hu.keep (w.heap.size) 5 (.slice A n k) (by simp [go_sem]);have r_1_0:=hu.keep (w.heap.size+1) 0 (.int .i64 0) (by simp [go_sem]);have r_1_1:=hu.keep (w.heap.size+1) 1 (.int .i64 0) (by simp [go_sem]);have r_1_2:=hu.keep (w.heap.size+1) 2 (.int .i64 0) (by simp [go_sem]);have r_1_3:=hu.keep (w.heap.size+1) 3 (.int .i64 0) (by simp [go_sem]);have r_1_4:=hu.keep (w.heap.size+1) 4 (.int .i64 0) (by simp [go_sem]);have r_1_5:=hu.keep (w.heap.size+1) 5 (.int .i64 0) (by simp [go_sem]);have la1:=World.block_lt_of_cell? _ _ a_1_0;have lr1:=World.block_lt_of_cell? _ _ r_1_0;have z0:=HU1.out.ownGe (g:=w.heap.size+1) (by omega) 0;have z1:=HU1.out.ownGe (g:=w.heap.size+1) (by omega) 1;have z2:=HU1.out.ownGe (g:=w.heap.size+1) (by omega) 2;have z3:=HU1.out.ownGe (g:=w.heap.size+1) (by omega) 3;have z4:=HU1.out.ownGe (g:=w.heap.size+1) (by omega) 4;have z5:=HU1.out.ownGe (g:=w.heap.size+1) (by omega) 5;clear hu hv ))
  refine bodyPost_ret (v:=.tuple #[.agg #[.int .i64 0,.int .i64 0,.int .i64 0,.int .i64 0,.int .i64 0,.int .i64 0],.int .i64 2]) (by simp [results,Tryz.results12,go_sem,r_1_0,r_1_1,r_1_2,r_1_3,r_1_4,r_1_5]) rfl ⟨rfl,?_⟩
  exact HU1.out.setP6 (by omega)

set_option maxHeartbeats 4000000 in
set_option maxRecDepth 100000 in
theorem rask14_none (v q c now seq:Int) (n k:Nat) (A:Option Addr) (X:List Mrk) (hn:n≤50000) (hv:stP v q c now seq X=true) (h0:n=0) (w:World) (hS:SG cM w A n X) :
    Calls Tryz.prog 12 #[.agg #[.int .i64 v,.int .i64 q,.int .i64 c,.int .i64 now,.int .i64 seq,.slice A n k]] w fun e w'=>e=.returned (.tuple #[.agg #[.int .i64 0,.int .i64 1,.int .i64 0,.int .i64 1,.int .i64 0,.int .i64 1],.int .i64 0])∧Up w w':=by
  have KV:=Lib.hid (fun W (h:SG cM W A n X)=>rvalidate14_up v q c now seq n k A X hn W h)
  rw [stPE_yes hv] at KV
  have HS:=Lib.hid hS
  have KW:=Lib.hid (whole8_up 0 ⟨by omega,by omega⟩)
  clear hS hv
  subst h0
  go_enter Tryz.func12,Tryz.ntmps12
  go_wp2_with (first
    | (go_at_call 14;(with_reducible refine (KV.out _ (HS.out.up (((Up.refl w).alloc _ _).alloc _ _))).mono ?_);rintro e w1 ⟨rfl,hu⟩;have hv:=(((Up.refl w).alloc #[.int .i64 v,.int .i64 q,.int .i64 c,.int .i64 now,.int .i64 seq,.slice A 0 k] 24).alloc #[.int .i64 0,.int .i64 0,.int .i64 0,.int .i64 0,.int .i64 0,.int .i64 0] 33).trans hu;have HV1:=Lib.hid hv;have HU1:=Lib.hid ((Up.refl w).trans hv);have a_1_0:=hu.keep (w.heap.size) 0 (.int .i64 v) (by simp [go_sem]);have a_1_1:=hu.keep (w.heap.size) 1 (.int .i64 q) (by simp [go_sem]);have a_1_2:=hu.keep (w.heap.size) 2 (.int .i64 c) (by simp [go_sem]);have a_1_3:=hu.keep (w.heap.size) 3 (.int .i64 now) (by simp [go_sem]);have a_1_4:=hu.keep (w.heap.size) 4 (.int .i64 seq) (by simp [go_sem]);have a_1_5:=hu.keep (w.heap.size) 5 (.slice A 0 k) (by simp [go_sem]);have r_1_0:=hu.keep (w.heap.size+1) 0 (.int .i64 0) (by simp [go_sem]);have r_1_1:=hu.keep (w.heap.size+1) 1 (.int .i64 0) (by simp [go_sem]);have r_1_2:=hu.keep (w.heap.size+1) 2 (.int .i64 0) (by simp [go_sem]);have r_1_3:=hu.keep (w.heap.size+1) 3 (.int .i64 0) (by simp [go_sem]);have r_1_4:=hu.keep (w.heap.size+1) 4 (.int .i64 0) (by simp [go_sem]);have r_1_5:=hu.keep (w.heap.size+1) 5 (.int .i64 0) (by simp [go_sem]);have la1:=World.block_lt_of_cell? _ _ a_1_0;have lr1:=World.block_lt_of_cell? _ _ r_1_0;clear hu hv )
    | (go_at_call 38;(with_reducible refine (KW.out _).mono ?_);rintro e w2 ⟨rfl,hu⟩;have hv:=(Up.refl w1).trans hu;have HV2:=Lib.hid hv;have HU2:=Lib.hid (HU1.out.trans hv);have a_2_0:=hv.keep _ _ _ a_1_0;have a_2_1:=hv.keep _ _ _ a_1_1;have a_2_2:=hv.keep _ _ _ a_1_2;have a_2_3:=hv.keep _ _ _ a_1_3;have a_2_4:=hv.keep _ _ _ a_1_4;have a_2_5:=hv.keep _ _ _ a_1_5;have r_2_0:=hv.keep _ _ _ r_1_0;have r_2_1:=hv.keep _ _ _ r_1_1;have r_2_2:=hv.keep _ _ _ r_1_2;have r_2_3:=hv.keep _ _ _ r_1_3;have r_2_4:=hv.keep _ _ _ r_1_4;have r_2_5:=hv.keep _ _ _ r_1_5;have la2:=World.block_lt_of_cell? _ _ a_2_0;have lr2:=World.block_lt_of_cell? _ _ r_2_0;have z0:=HU2.out.ownGe (g:=w.heap.size+1) (by omega) 0;have z1:=HU2.out.ownGe (g:=w.heap.size+1) (by omega) 1;have z2:=HU2.out.ownGe (g:=w.heap.size+1) (by omega) 2;have z3:=HU2.out.ownGe (g:=w.heap.size+1) (by omega) 3;have z4:=HU2.out.ownGe (g:=w.heap.size+1) (by omega) 4;have z5:=HU2.out.ownGe (g:=w.heap.size+1) (by omega) 5;clear hu hv la1 a_1_0 a_1_1 a_1_2 a_1_3 a_1_4 a_1_5 lr1 r_1_0 r_1_1 r_1_2 r_1_3 r_1_4 r_1_5))
  refine bodyPost_ret (v:=.tuple #[.agg #[.int .i64 0,.int .i64 1,.int .i64 0,.int .i64 1,.int .i64 0,.int .i64 1],.int .i64 0]) (by simp [results,Tryz.results12,go_sem,r_2_0,r_2_1,r_2_2,r_2_3,r_2_4,r_2_5]) rfl ⟨rfl,?_⟩
  exact HU2.out.setP6 (by omega)

set_option maxHeartbeats 4000000 in
set_option maxRecDepth 100000 in
theorem rask14_first (v q c now seq:Int) (n k:Nat) (A:Option Addr) (X:List Mrk) (hn:n≤50000) (hv:stP v q c now seq X=true) (h0:0<n) (hl:liveB now v (X.getD 0 mk0).t=true) (w:World) (hS:SG cM w A n X) :
    Calls Tryz.prog 12 #[.agg #[.int .i64 v,.int .i64 q,.int .i64 c,.int .i64 now,.int .i64 seq,.slice A n k]] w fun e w'=>e=.returned (.tuple #[.agg #[.int .i64 (spR (X.getD 0 mk0)).1,.int .i64 (spR (X.getD 0 mk0)).2,.int .i64 (spR (X.getD 0 mk0)).1,.int .i64 (spR (X.getD 0 mk0)).2,.int .i64 (spR (X.getD 0 mk0)).1,.int .i64 (spR (X.getD 0 mk0)).2],.int .i64 0])∧Up w w':=by
  have KV:=Lib.hid (fun W (h:SG cM W A n X)=>rvalidate14_up v q c now seq n k A X hn W h)
  rw [stPE_yes hv] at KV
  have HS:=Lib.hid hS
  have hm1:=(stP_my hv).1 0 (by rw [hS.1];exact h0)
  obtain ⟨vx,ix0,ix1⟩:=spR_valid (Or.inr hm1)
  have K1:=Lib.hid (rof14_up (X.getD 0 mk0))
  rw [show ofS (X.getD 0 mk0)=gotR (spR (X.getD 0 mk0)).1 (spR (X.getD 0 mk0)).2 true by unfold ofS;rw [if_pos hm1,spR_yes hm1]] at K1
  generalize spR (X.getD 0 mk0)=zx at *
  obtain ⟨x0,x1⟩:=zx
  simp only [gotR] at K1 vx ix0 ix1
  clear hm1 hS hv
  obtain ⟨b,o,rfl,_⟩:=mrk_at HS.out mk0 h0
  have HD0:=Lib.hid (fun W (h:Up w W)=>mrk_prev (HS.out.up h) h0)
  simp only [Nat.zero_mul,Nat.add_zero] at HD0
  have f20:(0:Int)<n:=by omega
  have t0:((n:Int) == 0)=false:=beq_eq_false_iff_ne.2 (by omega)
  have t0':¬ ((n:Int)=0):=by omega
  generalize X.getD 0 mk0=Ma at *
  obtain ⟨sq1,t1,nn1,s1,qq1,lo1,hi1⟩:=Ma
  simp only at HD0 hl K1
  have KL:=Lib.hid (rlive_any now v t1)
  rw [hl] at KL
  clear hl
  have KE:=Lib.hid (rbexact_up x0 x1 ix0 ix1)
  rw [vx] at KE
  simp only [oz_yes] at KE
  go_enter Tryz.func12,Tryz.ntmps12
  go_upto_region 7 with (first
      | (go_at_call 14;(with_reducible refine (KV.out _ (HS.out.up (((Up.refl w).alloc _ _).alloc _ _))).mono ?_);rintro e w1 ⟨rfl,hu⟩;have hv:=(((Up.refl w).alloc #[.int .i64 v,.int .i64 q,.int .i64 c,.int .i64 now,.int .i64 seq,.slice (some ⟨b,o,none⟩) n k] 24).alloc #[.int .i64 0,.int .i64 0,.int .i64 0,.int .i64 0,.int .i64 0,.int .i64 0] 33).trans hu;have HV1:=Lib.hid hv;have HU1:=Lib.hid ((Up.refl w).trans hv);have a_1_0:=hu.keep (w.heap.size) 0 (.int .i64 v) (by simp [go_sem]);have a_1_1:=hu.keep (w.heap.size) 1 (.int .i64 q) (by simp [go_sem]);have a_1_2:=hu.keep (w.heap.size) 2 (.int .i64 c) (by simp [go_sem]);have a_1_3:=hu.keep (w.heap.size) 3 (.int .i64 now) (by simp [go_sem]);have a_1_4:=hu.keep (w.heap.size) 4 (.int .i64 seq) (by simp [go_sem]);have a_1_5:=hu.keep (w.heap.size) 5 (.slice (some ⟨b,o,none⟩) n k) (by simp [go_sem]);have r_1_0:=hu.keep (w.heap.size+1) 0 (.int .i64 0) (by simp [go_sem]);have r_1_1:=hu.keep (w.heap.size+1) 1 (.int .i64 0) (by simp [go_sem]);have r_1_2:=hu.keep (w.heap.size+1) 2 (.int .i64 0) (by simp [go_sem]);have r_1_3:=hu.keep (w.heap.size+1) 3 (.int .i64 0) (by simp [go_sem]);have r_1_4:=hu.keep (w.heap.size+1) 4 (.int .i64 0) (by simp [go_sem]);have r_1_5:=hu.keep (w.heap.size+1) 5 (.int .i64 0) (by simp [go_sem]);have la1:=World.block_lt_of_cell? _ _ a_1_0;have lr1:=World.block_lt_of_cell? _ _ r_1_0;obtain ⟨d0,d1,d2,d3,d4,d5,d6⟩:=HD0.out _ HU1.out;clear hu hv )
      | (go_at_call 39;(with_reducible refine (K1.out _).mono ?_);rintro e w2 ⟨rfl,hu⟩;have hv:=(Up.refl w1).trans hu;have HV2:=Lib.hid hv;have HU2:=Lib.hid (HU1.out.trans hv);have a_2_0:=hv.keep _ _ _ a_1_0;have a_2_1:=hv.keep _ _ _ a_1_1;have a_2_2:=hv.keep _ _ _ a_1_2;have a_2_3:=hv.keep _ _ _ a_1_3;have a_2_4:=hv.keep _ _ _ a_1_4;have a_2_5:=hv.keep _ _ _ a_1_5;have r_2_0:=hv.keep _ _ _ r_1_0;have r_2_1:=hv.keep _ _ _ r_1_1;have r_2_2:=hv.keep _ _ _ r_1_2;have r_2_3:=hv.keep _ _ _ r_1_3;have r_2_4:=hv.keep _ _ _ r_1_4;have r_2_5:=hv.keep _ _ _ r_1_5;have la2:=World.block_lt_of_cell? _ _ a_2_0;have lr2:=World.block_lt_of_cell? _ _ r_2_0;clear hu hv la1 a_1_0 a_1_1 a_1_2 a_1_3 a_1_4 a_1_5 lr1 r_1_0 r_1_1 r_1_2 r_1_3 r_1_4 r_1_5))
  obtain ⟨W4,hW4⟩:∃ z,z=w2.alloc (.cells #[.int .i64 x0,.int .i64 x1] 31):=⟨_,rfl⟩
  rw [← hW4]
  have hv:Up w2 W4:=by rw [hW4];exact (Up.refl _).alloc _ _
  have h0_:W4.cell? ⟨w2.heap.size,0,none⟩=some (.int .i64 x0):=by rw [hW4];simp [go_sem]
  have h1_:W4.cell? ⟨w2.heap.size,1,none⟩=some (.int .i64 x1):=by rw [hW4];simp [go_sem]
  have a0:=hv.keep _ _ _ a_2_0
  have a1:=hv.keep _ _ _ a_2_1
  have a2:=hv.keep _ _ _ a_2_2
  have a3:=hv.keep _ _ _ a_2_3
  have a4:=hv.keep _ _ _ a_2_4
  have a5:=hv.keep _ _ _ a_2_5
  have r0:=hv.keep _ _ _ r_2_0
  have r1:=hv.keep _ _ _ r_2_1
  have r2:=hv.keep _ _ _ r_2_2
  have r3:=hv.keep _ _ _ r_2_3
  have r4:=hv.keep _ _ _ r_2_4
  have r5:=hv.keep _ _ _ r_2_5
  have HW:=Lib.hid (HU2.out.trans hv)
  clear hv hW4 d0 d1 d2 d3 d4 d5 d6
  obtain ⟨d0,d1,d2,d3,d4,d5,d6⟩:=HD0.out _ HW.out
  generalize w2.heap.size=ph at *
  have HSS:Hid (Up w W4∧W4.cell? ⟨w.heap.size,0,none⟩=some (.int .i64 v)∧W4.cell? ⟨w.heap.size,1,none⟩=some (.int .i64 q)∧W4.cell? ⟨w.heap.size,2,none⟩=some (.int .i64 c)∧W4.cell? ⟨w.heap.size,3,none⟩=some (.int .i64 now)∧W4.cell? ⟨w.heap.size,4,none⟩=some (.int .i64 seq)∧W4.cell? ⟨w.heap.size,5,none⟩=some (.slice (some ⟨b,o,none⟩) n k)∧W4.cell? ⟨b,o+1,none⟩=some (.int .i64 t1)):=Lib.hid ⟨HW.out,a0,a1,a2,a3,a4,a5,d1⟩
  go_wp2_with fail
  refine wp_region_held_drew (S:=fun w'=>Up w w'∧w'.cell? ⟨w.heap.size,0,none⟩=some (.int .i64 v)∧w'.cell? ⟨w.heap.size,1,none⟩=some (.int .i64 q)∧w'.cell? ⟨w.heap.size,2,none⟩=some (.int .i64 c)∧w'.cell? ⟨w.heap.size,3,none⟩=some (.int .i64 now)∧w'.cell? ⟨w.heap.size,4,none⟩=some (.int .i64 seq)∧w'.cell? ⟨w.heap.size,5,none⟩=some (.slice (some ⟨b,o,none⟩) n k)∧w'.cell? ⟨b,o+1,none⟩=some (.int .i64 t1)) (by kernel_rfl) ?hB1 (fun hHeld=>?_)
  case hB1=>(with_reducible exact keepL7 (Lib.hid (Up.refl _).drew) HSS.out)
  refine takeT 0 rfl (by assumption) ?_
  (try simp only [Act.put,stpA,stpB,stpC])
  refine takeT 1 rfl (by assumption) ?_
  (try simp only [Act.put,stpA,stpB,stpC])
  refine takeT 2 rfl (by assumption) ?_
  (try simp only [Act.put,stpA,stpB,stpC])
  refine takeT 3 rfl (by assumption) ?_
  (try simp only [Act.put,stpA,stpB,stpC])
  refine takeT 4 rfl (by assumption) ?_
  (try simp only [Act.put,stpA,stpB,stpC])
  refine takeT 5 rfl (by assumption) ?_
  (try simp only [Act.put,stpA,stpB,stpC])
  refine takeT 6 rfl (by assumption) ?_
  (try simp only [Act.put,stpA,stpB,stpC])
  refine takeT 7 rfl (by assumption) ?_
  (try simp only [Act.put,stpA,stpB,stpC])
  refine takeT 8 rfl (by assumption) ?_
  (try simp only [Act.put,stpA,stpB,stpC])
  refine wpAnyH_ready (rs:=[9]) (by kernel_rfl) (by simp) ?_
  refine AllReadyH.cons (o:=⟨_,_,_,_,_,_⟩) rfl (fun K hK=>?_) (AllReadyH.nil)
  go_simp
  (go_at_call 40;(with_reducible refine (KL.out _).mono ?_);rintro e w4 ⟨rfl,rfl⟩)
  (try go_wp2_with fail)
  refine hK.out _ _ ?hB11 (fun hHeld=>?_)
  case hB11=>assumption
  clear hK K
  (try simp only [Act.put,stpA,stpB,stpC])
  refine wpAnyH_done (by kernel_rfl) ?_ _
  clear hHeld HSS
  obtain ⟨W6,hW6⟩:∃ z,z=W4.drew:=⟨_,rfl⟩
  rw [← hW6]
  have hv:Up W4 W6:=by rw [hW6];exact (Up.refl _).drew
  have a0:=hv.keep _ _ _ a0
  have a1:=hv.keep _ _ _ a1
  have a2:=hv.keep _ _ _ a2
  have a3:=hv.keep _ _ _ a3
  have a4:=hv.keep _ _ _ a4
  have a5:=hv.keep _ _ _ a5
  have r0:=hv.keep _ _ _ r0
  have r1:=hv.keep _ _ _ r1
  have r2:=hv.keep _ _ _ r2
  have r3:=hv.keep _ _ _ r3
  have r4:=hv.keep _ _ _ r4
  have r5:=hv.keep _ _ _ r5
  have h0_:=hv.keep _ _ _ h0_
  have h1_:=hv.keep _ _ _ h1_
  have HW:=Lib.hid (HW.out.trans hv)
  clear hv hW6 d0 d1 d2 d3 d4 d5 d6
  go_wp2_with (go_at_call 41;(with_reducible refine (KE.out _).mono ?_);rintro e w5 ⟨rfl,hu⟩;have HW:=Lib.hid (HW.out.trans hu);have r0:=hu.keep _ _ _ r0;have r1:=hu.keep _ _ _ r1;have r2:=hu.keep _ _ _ r2;have r3:=hu.keep _ _ _ r3;have r4:=hu.keep _ _ _ r4;have r5:=hu.keep _ _ _ r5;have z0:=HW.out.ownGe (g:=w.heap.size+1) (by omega) 0;have z1:=HW.out.ownGe (g:=w.heap.size+1) (by omega) 1;have z2:=HW.out.ownGe (g:=w.heap.size+1) (by omega) 2;have z3:=HW.out.ownGe (g:=w.heap.size+1) (by omega) 3;have z4:=HW.out.ownGe (g:=w.heap.size+1) (by omega) 4;have z5:=HW.out.ownGe (g:=w.heap.size+1) (by omega) 5;clear hu)
  refine bodyPost_ret (v:=.tuple #[.agg #[.int .i64 x0,.int .i64 x1,.int .i64 x0,.int .i64 x1,.int .i64 x0,.int .i64 x1],.int .i64 0]) (by simp [results,Tryz.results12,go_sem,r0,r1,r2,r3,r4,r5]) rfl ⟨rfl,?_⟩
  exact HW.out.setP6 (by omega)

set_option maxHeartbeats 4000000 in
set_option maxRecDepth 100000 in
theorem rask14_second (v q c now seq:Int) (n k:Nat) (A:Option Addr) (X:List Mrk) (hn:n≤50000) (hv:stP v q c now seq X=true) (h1:1<n) (hl:liveB now v (X.getD 0 mk0).t=false) (hq:(X.getD 1 mk0).sq=(X.getD 0 mk0).sq+1) (w:World) (hS:SG cM w A n X) :
    Calls Tryz.prog 12 #[.agg #[.int .i64 v,.int .i64 q,.int .i64 c,.int .i64 now,.int .i64 seq,.slice A n k]] w fun e w'=>e=.returned (.tuple #[.agg #[.int .i64 (spR (X.getD 1 mk0)).1,.int .i64 (spR (X.getD 1 mk0)).2,.int .i64 (spR (X.getD 1 mk0)).1,.int .i64 (spR (X.getD 1 mk0)).2,.int .i64 (spR (X.getD 1 mk0)).1,.int .i64 (spR (X.getD 1 mk0)).2],.int .i64 0])∧Up w w':=by
  have h0:0<n:=by omega
  have hbd:=(stP_my hv).2.2 0 (by rw [hS.1];exact h0)
  have KV:=Lib.hid (fun W (h:SG cM W A n X)=>rvalidate14_up v q c now seq n k A X hn W h)
  rw [stPE_yes hv] at KV
  have HS:=Lib.hid hS
  have hm1:=(stP_my hv).1 0 (by rw [hS.1];exact h0)
  obtain ⟨vx,ix0,ix1⟩:=spR_valid (Or.inr hm1)
  have K1:=Lib.hid (rof14_up (X.getD 0 mk0))
  rw [show ofS (X.getD 0 mk0)=gotR (spR (X.getD 0 mk0)).1 (spR (X.getD 0 mk0)).2 true by unfold ofS;rw [if_pos hm1,spR_yes hm1]] at K1
  generalize spR (X.getD 0 mk0)=zx at *
  obtain ⟨x0,x1⟩:=zx
  simp only [gotR] at K1 vx ix0 ix1
  have hm2:=(stP_my hv).1 1 (by rw [hS.1];exact h1)
  obtain ⟨vy,iy0,iy1⟩:=spR_valid (Or.inr hm2)
  have K2:=Lib.hid (rof14_up (X.getD 1 mk0))
  rw [show ofS (X.getD 1 mk0)=gotR (spR (X.getD 1 mk0)).1 (spR (X.getD 1 mk0)).2 true by unfold ofS;rw [if_pos hm2,spR_yes hm2]] at K2
  generalize spR (X.getD 1 mk0)=zy at *
  obtain ⟨y0,y1⟩:=zy
  simp only [gotR] at K2 vy iy0 iy1
  clear hm1 hm2 hS hv
  obtain ⟨b,o,rfl,_⟩:=mrk_at HS.out mk0 h0
  have HD0:=Lib.hid (fun W (h:Up w W)=>mrk_prev (HS.out.up h) h0)
  simp only [Nat.zero_mul,Nat.add_zero] at HD0
  have f20:(0:Int)<n:=by omega
  have t0:((n:Int) == 0)=false:=beq_eq_false_iff_ne.2 (by omega)
  have t0':¬ ((n:Int)=0):=by omega
  have HD1:=Lib.hid (fun W (h:Up w W)=>mrk_prev (HS.out.up h) h1)
  simp only [Nat.one_mul] at HD1
  have f21:(1:Int)<n:=by omega
  generalize X.getD 1 mk0=Mb at *
  generalize X.getD 0 mk0=Ma at *
  obtain ⟨sq1,t1,nn1,s1,qq1,lo1,hi1⟩:=Ma
  obtain ⟨sq2,t2,nn2,s2,qq2,lo2,hi2⟩:=Mb
  have u1:=hbd.2.2.2.2.2
  simp only at HD0 HD1 hl K1 K2 hq u1
  obtain ⟨u1,u2⟩:=u1
  have w1_:IntKind.i64.wrap (sq1+1)=sq1+1:=by rw [IntKind.wrap_i64];omega
  have KL:=Lib.hid (rlive_any now v t1)
  rw [hl] at KL
  clear hl hbd
  subst hq
  have KE:=Lib.hid (rbexact_up y0 y1 iy0 iy1)
  rw [vy] at KE
  simp only [oz_yes] at KE
  go_enter Tryz.func12,Tryz.ntmps12
  go_upto_region 7 with (first
      | (go_at_call 14;(with_reducible refine (KV.out _ (HS.out.up (((Up.refl w).alloc _ _).alloc _ _))).mono ?_);rintro e w1 ⟨rfl,hu⟩;have hv:=(((Up.refl w).alloc #[.int .i64 v,.int .i64 q,.int .i64 c,.int .i64 now,.int .i64 seq,.slice (some ⟨b,o,none⟩) n k] 24).alloc #[.int .i64 0,.int .i64 0,.int .i64 0,.int .i64 0,.int .i64 0,.int .i64 0] 33).trans hu;have HV1:=Lib.hid hv;have HU1:=Lib.hid ((Up.refl w).trans hv);have a_1_0:=hu.keep (w.heap.size) 0 (.int .i64 v) (by simp [go_sem]);have a_1_1:=hu.keep (w.heap.size) 1 (.int .i64 q) (by simp [go_sem]);have a_1_2:=hu.keep (w.heap.size) 2 (.int .i64 c) (by simp [go_sem]);have a_1_3:=hu.keep (w.heap.size) 3 (.int .i64 now) (by simp [go_sem]);have a_1_4:=hu.keep (w.heap.size) 4 (.int .i64 seq) (by simp [go_sem]);have a_1_5:=hu.keep (w.heap.size) 5 (.slice (some ⟨b,o,none⟩) n k) (by simp [go_sem]);have r_1_0:=hu.keep (w.heap.size+1) 0 (.int .i64 0) (by simp [go_sem]);have r_1_1:=hu.keep (w.heap.size+1) 1 (.int .i64 0) (by simp [go_sem]);have r_1_2:=hu.keep (w.heap.size+1) 2 (.int .i64 0) (by simp [go_sem]);have r_1_3:=hu.keep (w.heap.size+1) 3 (.int .i64 0) (by simp [go_sem]);have r_1_4:=hu.keep (w.heap.size+1) 4 (.int .i64 0) (by simp [go_sem]);have r_1_5:=hu.keep (w.heap.size+1) 5 (.int .i64 0) (by simp [go_sem]);have la1:=World.block_lt_of_cell? _ _ a_1_0;have lr1:=World.block_lt_of_cell? _ _ r_1_0;obtain ⟨d0,d1,d2,d3,d4,d5,d6⟩:=HD0.out _ HU1.out;clear hu hv )
      | (go_at_call 39;(with_reducible refine (K1.out _).mono ?_);rintro e w2 ⟨rfl,hu⟩;have hv:=(Up.refl w1).trans hu;have HV2:=Lib.hid hv;have HU2:=Lib.hid (HU1.out.trans hv);have a_2_0:=hv.keep _ _ _ a_1_0;have a_2_1:=hv.keep _ _ _ a_1_1;have a_2_2:=hv.keep _ _ _ a_1_2;have a_2_3:=hv.keep _ _ _ a_1_3;have a_2_4:=hv.keep _ _ _ a_1_4;have a_2_5:=hv.keep _ _ _ a_1_5;have r_2_0:=hv.keep _ _ _ r_1_0;have r_2_1:=hv.keep _ _ _ r_1_1;have r_2_2:=hv.keep _ _ _ r_1_2;have r_2_3:=hv.keep _ _ _ r_1_3;have r_2_4:=hv.keep _ _ _ r_1_4;have r_2_5:=hv.keep _ _ _ r_1_5;have la2:=World.block_lt_of_cell? _ _ a_2_0;have lr2:=World.block_lt_of_cell? _ _ r_2_0;clear hu hv la1 a_1_0 a_1_1 a_1_2 a_1_3 a_1_4 a_1_5 lr1 r_1_0 r_1_1 r_1_2 r_1_3 r_1_4 r_1_5))
  obtain ⟨W4,hW4⟩:∃ z,z=w2.alloc (.cells #[.int .i64 x0,.int .i64 x1] 31):=⟨_,rfl⟩
  rw [← hW4]
  have hv:Up w2 W4:=by rw [hW4];exact (Up.refl _).alloc _ _
  have h0_:W4.cell? ⟨w2.heap.size,0,none⟩=some (.int .i64 x0):=by rw [hW4];simp [go_sem]
  have h1_:W4.cell? ⟨w2.heap.size,1,none⟩=some (.int .i64 x1):=by rw [hW4];simp [go_sem]
  have a0:=hv.keep _ _ _ a_2_0
  have a1:=hv.keep _ _ _ a_2_1
  have a2:=hv.keep _ _ _ a_2_2
  have a3:=hv.keep _ _ _ a_2_3
  have a4:=hv.keep _ _ _ a_2_4
  have a5:=hv.keep _ _ _ a_2_5
  have r0:=hv.keep _ _ _ r_2_0
  have r1:=hv.keep _ _ _ r_2_1
  have r2:=hv.keep _ _ _ r_2_2
  have r3:=hv.keep _ _ _ r_2_3
  have r4:=hv.keep _ _ _ r_2_4
  have r5:=hv.keep _ _ _ r_2_5
  have HW:=Lib.hid (HU2.out.trans hv)
  clear hv hW4 d0 d1 d2 d3 d4 d5 d6
  obtain ⟨d0,d1,d2,d3,d4,d5,d6⟩:=HD0.out _ HW.out
  generalize w2.heap.size=ph at *
  have HSS:Hid (Up w W4∧W4.cell? ⟨w.heap.size,0,none⟩=some (.int .i64 v)∧W4.cell? ⟨w.heap.size,1,none⟩=some (.int .i64 q)∧W4.cell? ⟨w.heap.size,2,none⟩=some (.int .i64 c)∧W4.cell? ⟨w.heap.size,3,none⟩=some (.int .i64 now)∧W4.cell? ⟨w.heap.size,4,none⟩=some (.int .i64 seq)∧W4.cell? ⟨w.heap.size,5,none⟩=some (.slice (some ⟨b,o,none⟩) n k)∧W4.cell? ⟨b,o+1,none⟩=some (.int .i64 t1)):=Lib.hid ⟨HW.out,a0,a1,a2,a3,a4,a5,d1⟩
  go_wp2_with fail
  refine wp_region_held_drew (S:=fun w'=>Up w w'∧w'.cell? ⟨w.heap.size,0,none⟩=some (.int .i64 v)∧w'.cell? ⟨w.heap.size,1,none⟩=some (.int .i64 q)∧w'.cell? ⟨w.heap.size,2,none⟩=some (.int .i64 c)∧w'.cell? ⟨w.heap.size,3,none⟩=some (.int .i64 now)∧w'.cell? ⟨w.heap.size,4,none⟩=some (.int .i64 seq)∧w'.cell? ⟨w.heap.size,5,none⟩=some (.slice (some ⟨b,o,none⟩) n k)∧w'.cell? ⟨b,o+1,none⟩=some (.int .i64 t1)) (by kernel_rfl) ?hB12 (fun hHeld=>?_)
  case hB12=>(with_reducible exact keepL7 (Lib.hid (Up.refl _).drew) HSS.out)
  refine takeT 0 rfl (by assumption) ?_
  (try simp only [Act.put,stpA,stpB,stpC])
  refine takeT 1 rfl (by assumption) ?_
  (try simp only [Act.put,stpA,stpB,stpC])
  refine takeT 2 rfl (by assumption) ?_
  (try simp only [Act.put,stpA,stpB,stpC])
  refine takeT 3 rfl (by assumption) ?_
  (try simp only [Act.put,stpA,stpB,stpC])
  refine takeT 4 rfl (by assumption) ?_
  (try simp only [Act.put,stpA,stpB,stpC])
  refine takeT 5 rfl (by assumption) ?_
  (try simp only [Act.put,stpA,stpB,stpC])
  refine takeT 6 rfl (by assumption) ?_
  (try simp only [Act.put,stpA,stpB,stpC])
  refine takeT 7 rfl (by assumption) ?_
  (try simp only [Act.put,stpA,stpB,stpC])
  refine takeT 8 rfl (by assumption) ?_
  (try simp only [Act.put,stpA,stpB,stpC])
  refine wpAnyH_ready (rs:=[9]) (by kernel_rfl) (by simp) ?_
  refine AllReadyH.cons (o:=⟨_,_,_,_,_,_⟩) rfl (fun K hK=>?_) (AllReadyH.nil)
  go_simp
  (go_at_call 40;(with_reducible refine (KL.out _).mono ?_);rintro e w4 ⟨rfl,rfl⟩)
  (try go_wp2_with fail)
  refine hK.out _ _ ?hB22 (fun hHeld=>?_)
  case hB22=>assumption
  clear hK K
  (try simp only [Act.put,stpA,stpB,stpC])
  refine wpAnyH_done (by kernel_rfl) ?_ _
  clear hHeld HSS
  obtain ⟨W6,hW6⟩:∃ z,z=W4.drew:=⟨_,rfl⟩
  rw [← hW6]
  have hv:Up W4 W6:=by rw [hW6];exact (Up.refl _).drew
  have a0:=hv.keep _ _ _ a0
  have a1:=hv.keep _ _ _ a1
  have a2:=hv.keep _ _ _ a2
  have a3:=hv.keep _ _ _ a3
  have a4:=hv.keep _ _ _ a4
  have a5:=hv.keep _ _ _ a5
  have r0:=hv.keep _ _ _ r0
  have r1:=hv.keep _ _ _ r1
  have r2:=hv.keep _ _ _ r2
  have r3:=hv.keep _ _ _ r3
  have r4:=hv.keep _ _ _ r4
  have r5:=hv.keep _ _ _ r5
  have h0_:=hv.keep _ _ _ h0_
  have h1_:=hv.keep _ _ _ h1_
  have HW:=Lib.hid (HW.out.trans hv)
  clear hv hW6 d0 d1 d2 d3 d4 d5 d6
  obtain ⟨d0,d1,d2,d3,d4,d5,d6⟩:=HD1.out _ HW.out
  go_upto_region 10 with (go_at_call 39;(with_reducible refine (K2.out _).mono ?_);rintro e w7 ⟨rfl,hu⟩;have HW:=Lib.hid (HW.out.trans hu);have a0:=hu.keep _ _ _ a0;have a1:=hu.keep _ _ _ a1;have a2:=hu.keep _ _ _ a2;have a3:=hu.keep _ _ _ a3;have a4:=hu.keep _ _ _ a4;have a5:=hu.keep _ _ _ a5;have r0:=hu.keep _ _ _ r0;have r1:=hu.keep _ _ _ r1;have r2:=hu.keep _ _ _ r2;have r3:=hu.keep _ _ _ r3;have r4:=hu.keep _ _ _ r4;have r5:=hu.keep _ _ _ r5;have h0_:=hu.keep _ _ _ h0_;have h1_:=hu.keep _ _ _ h1_;have z0:=HW.out.ownGe (g:=w.heap.size+1) (by omega) 0;have z1:=HW.out.ownGe (g:=w.heap.size+1) (by omega) 1;have z2:=HW.out.ownGe (g:=w.heap.size+1) (by omega) 2;have z3:=HW.out.ownGe (g:=w.heap.size+1) (by omega) 3;have z4:=HW.out.ownGe (g:=w.heap.size+1) (by omega) 4;have z5:=HW.out.ownGe (g:=w.heap.size+1) (by omega) 5;have hph:=World.block_lt_of_cell? _ _ h0_;clear hu)
  obtain ⟨W8,hW8⟩:∃ z,z=w7.alloc (.cells #[.int .i64 y0,.int .i64 y1] 31):=⟨_,rfl⟩
  rw [← hW8]
  have hv:Up w7 W8:=by rw [hW8];exact (Up.refl _).alloc _ _
  have g0_:W8.cell? ⟨w7.heap.size,0,none⟩=some (.int .i64 y0):=by rw [hW8];simp [go_sem]
  have g1_:W8.cell? ⟨w7.heap.size,1,none⟩=some (.int .i64 y1):=by rw [hW8];simp [go_sem]
  have a0:=hv.keep _ _ _ a0
  have a1:=hv.keep _ _ _ a1
  have a2:=hv.keep _ _ _ a2
  have a3:=hv.keep _ _ _ a3
  have a4:=hv.keep _ _ _ a4
  have a5:=hv.keep _ _ _ a5
  have r0:=hv.keep _ _ _ r0
  have r1:=hv.keep _ _ _ r1
  have r2:=hv.keep _ _ _ r2
  have r3:=hv.keep _ _ _ r3
  have r4:=hv.keep _ _ _ r4
  have r5:=hv.keep _ _ _ r5
  have h0_:=hv.keep _ _ _ h0_
  have h1_:=hv.keep _ _ _ h1_
  have HW:=Lib.hid (HW.out.trans hv)
  clear hv hW8 d0 d1 d2 d3 d4 d5 d6
  obtain ⟨d0,d1,d2,d3,d4,d5,d6⟩:=HD0.out _ HW.out
  obtain ⟨m0,m1,m2,m3,m4,m5,m6⟩:=HD1.out _ HW.out
  generalize w7.heap.size=pg at *
  have HSS:Hid (Up w W8∧W8.cell? ⟨w.heap.size,5,none⟩=some (.slice (some ⟨b,o,none⟩) n k)∧W8.cell? ⟨b,o,none⟩=some (.int .i64 sq1)∧W8.cell? ⟨b,o+7,none⟩=some (.int .i64 (sq1+1))):=Lib.hid ⟨HW.out,a5,d0,m0⟩
  go_wp2_with fail
  refine wp_region_held_drew (S:=fun w'=>Up w w'∧w'.cell? ⟨w.heap.size,5,none⟩=some (.slice (some ⟨b,o,none⟩) n k)∧w'.cell? ⟨b,o,none⟩=some (.int .i64 sq1)∧w'.cell? ⟨b,o+7,none⟩=some (.int .i64 (sq1+1))) (by kernel_rfl) ?hB23 (fun hHeld=>?_)
  case hB23=>(with_reducible exact keepL3 (Lib.hid (Up.refl _).drew) HSS.out)
  refine takeT 0 rfl (by assumption) ?_
  (try simp only [Act.put,stpA,stpB,stpC])
  refine takeT 1 rfl (by assumption) ?_
  (try simp only [Act.put,stpA,stpB,stpC])
  refine takeT 2 rfl (by assumption) ?_
  (try simp only [Act.put,stpA,stpB,stpC])
  refine takeT 3 rfl (by assumption) ?_
  (try simp only [Act.put,stpA,stpB,stpC])
  refine takeT 4 rfl (by assumption) ?_
  (try simp only [Act.put,stpA,stpB,stpC])
  refine takeT 5 rfl (by assumption) ?_
  (try simp only [Act.put,stpA,stpB,stpC])
  refine takeT 6 rfl (by assumption) ?_
  (try simp only [Act.put,stpA,stpB,stpC])
  refine takeT 7 rfl (by assumption) ?_
  (try simp only [Act.put,stpA,stpB,stpC])
  refine takeT 8 rfl (by assumption) ?_
  (try simp only [Act.put,stpA,stpB,stpC])
  refine takeT 9 rfl (by assumption) ?_
  (try simp only [Act.put,stpA,stpB,stpC])
  refine takeT 10 rfl (by assumption) ?_
  (try simp only [Act.put,stpA,stpB,stpC])
  refine takeT 11 rfl (by assumption) ?_
  (try simp only [Act.put,stpA,stpB,stpC])
  refine wpAnyH_done (by kernel_rfl) ?_ _
  clear hHeld HSS
  obtain ⟨W9,hW9⟩:∃ z,z=W8.drew:=⟨_,rfl⟩
  rw [← hW9]
  have hv:Up W8 W9:=by rw [hW9];exact (Up.refl _).drew
  have r0:=hv.keep _ _ _ r0
  have r1:=hv.keep _ _ _ r1
  have r2:=hv.keep _ _ _ r2
  have r3:=hv.keep _ _ _ r3
  have r4:=hv.keep _ _ _ r4
  have r5:=hv.keep _ _ _ r5
  have h0_:=hv.keep _ _ _ h0_
  have h1_:=hv.keep _ _ _ h1_
  have g0_:=hv.keep _ _ _ g0_
  have g1_:=hv.keep _ _ _ g1_
  have HW:=Lib.hid (HW.out.trans hv)
  clear hv hW9 d0 d1 d2 d3 d4 d5 d6 m0 m1 m2 m3 m4 m5 m6 a0 a1 a2 a3 a4 a5
  go_wp2_with (go_at_call 41;(with_reducible refine (KE.out _).mono ?_);rintro e w10 ⟨rfl,hu⟩;have HW:=Lib.hid (HW.out.trans hu);have r0:=hu.keep _ _ _ r0;have r1:=hu.keep _ _ _ r1;have r2:=hu.keep _ _ _ r2;have r3:=hu.keep _ _ _ r3;have r4:=hu.keep _ _ _ r4;have r5:=hu.keep _ _ _ r5;have z0:=HW.out.ownGe (g:=w.heap.size+1) (by omega) 0;have z1:=HW.out.ownGe (g:=w.heap.size+1) (by omega) 1;have z2:=HW.out.ownGe (g:=w.heap.size+1) (by omega) 2;have z3:=HW.out.ownGe (g:=w.heap.size+1) (by omega) 3;have z4:=HW.out.ownGe (g:=w.heap.size+1) (by omega) 4;have z5:=HW.out.ownGe (g:=w.heap.size+1) (by omega) 5;clear hu)
  refine bodyPost_ret (v:=.tuple #[.agg #[.int .i64 y0,.int .i64 y1,.int .i64 y0,.int .i64 y1,.int .i64 y0,.int .i64 y1],.int .i64 0]) (by simp [results,Tryz.results12,go_sem,r0,r1,r2,r3,r4,r5]) rfl ⟨rfl,?_⟩
  exact HW.out.setP6 (by omega)

set_option maxHeartbeats 4000000 in
set_option maxRecDepth 100000 in
theorem rask14_both (v q c now seq:Int) (n k:Nat) (A:Option Addr) (X:List Mrk) (hn:n≤50000) (hv:stP v q c now seq X=true) (h1:1<n) (hl:liveB now v (X.getD 0 mk0).t=false) (hq:¬ (X.getD 1 mk0).sq=(X.getD 0 mk0).sq+1) (w:World) (hS:SG cM w A n X) :
    Calls Tryz.prog 12 #[.agg #[.int .i64 v,.int .i64 q,.int .i64 c,.int .i64 now,.int .i64 seq,.slice A n k]] w fun e w'=>e=.returned (.tuple #[.agg #[.int .i64 (spR (X.getD 1 mk0)).1,.int .i64 (spR (X.getD 1 mk0)).2,.int .i64 (spR (X.getD 1 mk0)).1,.int .i64 (spR (X.getD 1 mk0)).2,.int .i64 (spR (X.getD 0 mk0)).1,.int .i64 (spR (X.getD 0 mk0)).2],.int .i64 0])∧Up w w':=by
  have h0:0<n:=by omega
  have hbd:=(stP_my hv).2.2 0 (by rw [hS.1];exact h0)
  have KV:=Lib.hid (fun W (h:SG cM W A n X)=>rvalidate14_up v q c now seq n k A X hn W h)
  rw [stPE_yes hv] at KV
  have HS:=Lib.hid hS
  have hm1:=(stP_my hv).1 0 (by rw [hS.1];exact h0)
  obtain ⟨vx,ix0,ix1⟩:=spR_valid (Or.inr hm1)
  have K1:=Lib.hid (rof14_up (X.getD 0 mk0))
  rw [show ofS (X.getD 0 mk0)=gotR (spR (X.getD 0 mk0)).1 (spR (X.getD 0 mk0)).2 true by unfold ofS;rw [if_pos hm1,spR_yes hm1]] at K1
  generalize spR (X.getD 0 mk0)=zx at *
  obtain ⟨x0,x1⟩:=zx
  simp only [gotR] at K1 vx ix0 ix1
  have hm2:=(stP_my hv).1 1 (by rw [hS.1];exact h1)
  obtain ⟨vy,iy0,iy1⟩:=spR_valid (Or.inr hm2)
  have K2:=Lib.hid (rof14_up (X.getD 1 mk0))
  rw [show ofS (X.getD 1 mk0)=gotR (spR (X.getD 1 mk0)).1 (spR (X.getD 1 mk0)).2 true by unfold ofS;rw [if_pos hm2,spR_yes hm2]] at K2
  generalize spR (X.getD 1 mk0)=zy at *
  obtain ⟨y0,y1⟩:=zy
  simp only [gotR] at K2 vy iy0 iy1
  clear hm1 hm2 hS hv
  obtain ⟨b,o,rfl,_⟩:=mrk_at HS.out mk0 h0
  have HD0:=Lib.hid (fun W (h:Up w W)=>mrk_prev (HS.out.up h) h0)
  simp only [Nat.zero_mul,Nat.add_zero] at HD0
  have f20:(0:Int)<n:=by omega
  have t0:((n:Int) == 0)=false:=beq_eq_false_iff_ne.2 (by omega)
  have t0':¬ ((n:Int)=0):=by omega
  have HD1:=Lib.hid (fun W (h:Up w W)=>mrk_prev (HS.out.up h) h1)
  simp only [Nat.one_mul] at HD1
  have f21:(1:Int)<n:=by omega
  generalize X.getD 1 mk0=Mb at *
  generalize X.getD 0 mk0=Ma at *
  obtain ⟨sq1,t1,nn1,s1,qq1,lo1,hi1⟩:=Ma
  obtain ⟨sq2,t2,nn2,s2,qq2,lo2,hi2⟩:=Mb
  have u1:=hbd.2.2.2.2.2
  simp only at HD0 HD1 hl K1 K2 hq u1
  obtain ⟨u1,u2⟩:=u1
  have w1_:IntKind.i64.wrap (sq1+1)=sq1+1:=by rw [IntKind.wrap_i64];omega
  have KL:=Lib.hid (rlive_any now v t1)
  rw [hl] at KL
  clear hl hbd
  have hq1:(sq2 == sq1+1)=false:=beq_eq_false_iff_ne.2 hq
  go_enter Tryz.func12,Tryz.ntmps12
  go_upto_region 7 with (first
      | (go_at_call 14;(with_reducible refine (KV.out _ (HS.out.up (((Up.refl w).alloc _ _).alloc _ _))).mono ?_);rintro e w1 ⟨rfl,hu⟩;have hv:=(((Up.refl w).alloc #[.int .i64 v,.int .i64 q,.int .i64 c,.int .i64 now,.int .i64 seq,.slice (some ⟨b,o,none⟩) n k] 24).alloc #[.int .i64 0,.int .i64 0,.int .i64 0,.int .i64 0,.int .i64 0,.int .i64 0] 33).trans hu;have HV1:=Lib.hid hv;have HU1:=Lib.hid ((Up.refl w).trans hv);have a_1_0:=hu.keep (w.heap.size) 0 (.int .i64 v) (by simp [go_sem]);have a_1_1:=hu.keep (w.heap.size) 1 (.int .i64 q) (by simp [go_sem]);have a_1_2:=hu.keep (w.heap.size) 2 (.int .i64 c) (by simp [go_sem]);have a_1_3:=hu.keep (w.heap.size) 3 (.int .i64 now) (by simp [go_sem]);have a_1_4:=hu.keep (w.heap.size) 4 (.int .i64 seq) (by simp [go_sem]);have a_1_5:=hu.keep (w.heap.size) 5 (.slice (some ⟨b,o,none⟩) n k) (by simp [go_sem]);have r_1_0:=hu.keep (w.heap.size+1) 0 (.int .i64 0) (by simp [go_sem]);have r_1_1:=hu.keep (w.heap.size+1) 1 (.int .i64 0) (by simp [go_sem]);have r_1_2:=hu.keep (w.heap.size+1) 2 (.int .i64 0) (by simp [go_sem]);have r_1_3:=hu.keep (w.heap.size+1) 3 (.int .i64 0) (by simp [go_sem]);have r_1_4:=hu.keep (w.heap.size+1) 4 (.int .i64 0) (by simp [go_sem]);have r_1_5:=hu.keep (w.heap.size+1) 5 (.int .i64 0) (by simp [go_sem]);have la1:=World.block_lt_of_cell? _ _ a_1_0;have lr1:=World.block_lt_of_cell? _ _ r_1_0;obtain ⟨d0,d1,d2,d3,d4,d5,d6⟩:=HD0.out _ HU1.out;clear hu hv )
      | (go_at_call 39;(with_reducible refine (K1.out _).mono ?_);rintro e w2 ⟨rfl,hu⟩;have hv:=(Up.refl w1).trans hu;have HV2:=Lib.hid hv;have HU2:=Lib.hid (HU1.out.trans hv);have a_2_0:=hv.keep _ _ _ a_1_0;have a_2_1:=hv.keep _ _ _ a_1_1;have a_2_2:=hv.keep _ _ _ a_1_2;have a_2_3:=hv.keep _ _ _ a_1_3;have a_2_4:=hv.keep _ _ _ a_1_4;have a_2_5:=hv.keep _ _ _ a_1_5;have r_2_0:=hv.keep _ _ _ r_1_0;have r_2_1:=hv.keep _ _ _ r_1_1;have r_2_2:=hv.keep _ _ _ r_1_2;have r_2_3:=hv.keep _ _ _ r_1_3;have r_2_4:=hv.keep _ _ _ r_1_4;have r_2_5:=hv.keep _ _ _ r_1_5;have la2:=World.block_lt_of_cell? _ _ a_2_0;have lr2:=World.block_lt_of_cell? _ _ r_2_0;clear hu hv la1 a_1_0 a_1_1 a_1_2 a_1_3 a_1_4 a_1_5 lr1 r_1_0 r_1_1 r_1_2 r_1_3 r_1_4 r_1_5))
  obtain ⟨W4,hW4⟩:∃ z,z=w2.alloc (.cells #[.int .i64 x0,.int .i64 x1] 31):=⟨_,rfl⟩
  rw [← hW4]
  have hv:Up w2 W4:=by rw [hW4];exact (Up.refl _).alloc _ _
  have h0_:W4.cell? ⟨w2.heap.size,0,none⟩=some (.int .i64 x0):=by rw [hW4];simp [go_sem]
  have h1_:W4.cell? ⟨w2.heap.size,1,none⟩=some (.int .i64 x1):=by rw [hW4];simp [go_sem]
  have a0:=hv.keep _ _ _ a_2_0
  have a1:=hv.keep _ _ _ a_2_1
  have a2:=hv.keep _ _ _ a_2_2
  have a3:=hv.keep _ _ _ a_2_3
  have a4:=hv.keep _ _ _ a_2_4
  have a5:=hv.keep _ _ _ a_2_5
  have r0:=hv.keep _ _ _ r_2_0
  have r1:=hv.keep _ _ _ r_2_1
  have r2:=hv.keep _ _ _ r_2_2
  have r3:=hv.keep _ _ _ r_2_3
  have r4:=hv.keep _ _ _ r_2_4
  have r5:=hv.keep _ _ _ r_2_5
  have HW:=Lib.hid (HU2.out.trans hv)
  clear hv hW4 d0 d1 d2 d3 d4 d5 d6
  obtain ⟨d0,d1,d2,d3,d4,d5,d6⟩:=HD0.out _ HW.out
  generalize w2.heap.size=ph at *
  have HSS:Hid (Up w W4∧W4.cell? ⟨w.heap.size,0,none⟩=some (.int .i64 v)∧W4.cell? ⟨w.heap.size,1,none⟩=some (.int .i64 q)∧W4.cell? ⟨w.heap.size,2,none⟩=some (.int .i64 c)∧W4.cell? ⟨w.heap.size,3,none⟩=some (.int .i64 now)∧W4.cell? ⟨w.heap.size,4,none⟩=some (.int .i64 seq)∧W4.cell? ⟨w.heap.size,5,none⟩=some (.slice (some ⟨b,o,none⟩) n k)∧W4.cell? ⟨b,o+1,none⟩=some (.int .i64 t1)):=Lib.hid ⟨HW.out,a0,a1,a2,a3,a4,a5,d1⟩
  go_wp2_with fail
  refine wp_region_held_drew (S:=fun w'=>Up w w'∧w'.cell? ⟨w.heap.size,0,none⟩=some (.int .i64 v)∧w'.cell? ⟨w.heap.size,1,none⟩=some (.int .i64 q)∧w'.cell? ⟨w.heap.size,2,none⟩=some (.int .i64 c)∧w'.cell? ⟨w.heap.size,3,none⟩=some (.int .i64 now)∧w'.cell? ⟨w.heap.size,4,none⟩=some (.int .i64 seq)∧w'.cell? ⟨w.heap.size,5,none⟩=some (.slice (some ⟨b,o,none⟩) n k)∧w'.cell? ⟨b,o+1,none⟩=some (.int .i64 t1)) (by kernel_rfl) ?hB36 (fun hHeld=>?_)
  case hB36=>(with_reducible exact keepL7 (Lib.hid (Up.refl _).drew) HSS.out)
  refine takeT 0 rfl (by assumption) ?_
  (try simp only [Act.put,stpA,stpB,stpC])
  refine takeT 1 rfl (by assumption) ?_
  (try simp only [Act.put,stpA,stpB,stpC])
  refine takeT 2 rfl (by assumption) ?_
  (try simp only [Act.put,stpA,stpB,stpC])
  refine takeT 3 rfl (by assumption) ?_
  (try simp only [Act.put,stpA,stpB,stpC])
  refine takeT 4 rfl (by assumption) ?_
  (try simp only [Act.put,stpA,stpB,stpC])
  refine takeT 5 rfl (by assumption) ?_
  (try simp only [Act.put,stpA,stpB,stpC])
  refine takeT 6 rfl (by assumption) ?_
  (try simp only [Act.put,stpA,stpB,stpC])
  refine takeT 7 rfl (by assumption) ?_
  (try simp only [Act.put,stpA,stpB,stpC])
  refine takeT 8 rfl (by assumption) ?_
  (try simp only [Act.put,stpA,stpB,stpC])
  refine wpAnyH_ready (rs:=[9]) (by kernel_rfl) (by simp) ?_
  refine AllReadyH.cons (o:=⟨_,_,_,_,_,_⟩) rfl (fun K hK=>?_) (AllReadyH.nil)
  go_simp
  (go_at_call 40;(with_reducible refine (KL.out _).mono ?_);rintro e w4 ⟨rfl,rfl⟩)
  (try go_wp2_with fail)
  refine hK.out _ _ ?hB46 (fun hHeld=>?_)
  case hB46=>assumption
  clear hK K
  (try simp only [Act.put,stpA,stpB,stpC])
  refine wpAnyH_done (by kernel_rfl) ?_ _
  clear hHeld HSS
  obtain ⟨W6,hW6⟩:∃ z,z=W4.drew:=⟨_,rfl⟩
  rw [← hW6]
  have hv:Up W4 W6:=by rw [hW6];exact (Up.refl _).drew
  have a0:=hv.keep _ _ _ a0
  have a1:=hv.keep _ _ _ a1
  have a2:=hv.keep _ _ _ a2
  have a3:=hv.keep _ _ _ a3
  have a4:=hv.keep _ _ _ a4
  have a5:=hv.keep _ _ _ a5
  have r0:=hv.keep _ _ _ r0
  have r1:=hv.keep _ _ _ r1
  have r2:=hv.keep _ _ _ r2
  have r3:=hv.keep _ _ _ r3
  have r4:=hv.keep _ _ _ r4
  have r5:=hv.keep _ _ _ r5
  have h0_:=hv.keep _ _ _ h0_
  have h1_:=hv.keep _ _ _ h1_
  have HW:=Lib.hid (HW.out.trans hv)
  clear hv hW6 d0 d1 d2 d3 d4 d5 d6
  obtain ⟨d0,d1,d2,d3,d4,d5,d6⟩:=HD1.out _ HW.out
  go_upto_region 10 with (go_at_call 39;(with_reducible refine (K2.out _).mono ?_);rintro e w7 ⟨rfl,hu⟩;have HW:=Lib.hid (HW.out.trans hu);have a0:=hu.keep _ _ _ a0;have a1:=hu.keep _ _ _ a1;have a2:=hu.keep _ _ _ a2;have a3:=hu.keep _ _ _ a3;have a4:=hu.keep _ _ _ a4;have a5:=hu.keep _ _ _ a5;have r0:=hu.keep _ _ _ r0;have r1:=hu.keep _ _ _ r1;have r2:=hu.keep _ _ _ r2;have r3:=hu.keep _ _ _ r3;have r4:=hu.keep _ _ _ r4;have r5:=hu.keep _ _ _ r5;have h0_:=hu.keep _ _ _ h0_;have h1_:=hu.keep _ _ _ h1_;have z0:=HW.out.ownGe (g:=w.heap.size+1) (by omega) 0;have z1:=HW.out.ownGe (g:=w.heap.size+1) (by omega) 1;have z2:=HW.out.ownGe (g:=w.heap.size+1) (by omega) 2;have z3:=HW.out.ownGe (g:=w.heap.size+1) (by omega) 3;have z4:=HW.out.ownGe (g:=w.heap.size+1) (by omega) 4;have z5:=HW.out.ownGe (g:=w.heap.size+1) (by omega) 5;have hph:=World.block_lt_of_cell? _ _ h0_;clear hu)
  obtain ⟨W8,hW8⟩:∃ z,z=w7.alloc (.cells #[.int .i64 y0,.int .i64 y1] 31):=⟨_,rfl⟩
  rw [← hW8]
  have hv:Up w7 W8:=by rw [hW8];exact (Up.refl _).alloc _ _
  have g0_:W8.cell? ⟨w7.heap.size,0,none⟩=some (.int .i64 y0):=by rw [hW8];simp [go_sem]
  have g1_:W8.cell? ⟨w7.heap.size,1,none⟩=some (.int .i64 y1):=by rw [hW8];simp [go_sem]
  have a0:=hv.keep _ _ _ a0
  have a1:=hv.keep _ _ _ a1
  have a2:=hv.keep _ _ _ a2
  have a3:=hv.keep _ _ _ a3
  have a4:=hv.keep _ _ _ a4
  have a5:=hv.keep _ _ _ a5
  have r0:=hv.keep _ _ _ r0
  have r1:=hv.keep _ _ _ r1
  have r2:=hv.keep _ _ _ r2
  have r3:=hv.keep _ _ _ r3
  have r4:=hv.keep _ _ _ r4
  have r5:=hv.keep _ _ _ r5
  have h0_:=hv.keep _ _ _ h0_
  have h1_:=hv.keep _ _ _ h1_
  have HW:=Lib.hid (HW.out.trans hv)
  clear hv hW8 d0 d1 d2 d3 d4 d5 d6
  obtain ⟨d0,d1,d2,d3,d4,d5,d6⟩:=HD0.out _ HW.out
  obtain ⟨m0,m1,m2,m3,m4,m5,m6⟩:=HD1.out _ HW.out
  generalize w7.heap.size=pg at *
  have HSS:Hid (Up w W8∧W8.cell? ⟨w.heap.size,5,none⟩=some (.slice (some ⟨b,o,none⟩) n k)∧W8.cell? ⟨b,o,none⟩=some (.int .i64 sq1)∧W8.cell? ⟨b,o+7,none⟩=some (.int .i64 sq2)):=Lib.hid ⟨HW.out,a5,d0,m0⟩
  go_wp2_with fail
  refine wp_region_held_drew (S:=fun w'=>Up w w'∧w'.cell? ⟨w.heap.size,5,none⟩=some (.slice (some ⟨b,o,none⟩) n k)∧w'.cell? ⟨b,o,none⟩=some (.int .i64 sq1)∧w'.cell? ⟨b,o+7,none⟩=some (.int .i64 sq2)) (by kernel_rfl) ?hB47 (fun hHeld=>?_)
  case hB47=>(with_reducible exact keepL3 (Lib.hid (Up.refl _).drew) HSS.out)
  refine takeT 0 rfl (by assumption) ?_
  (try simp only [Act.put,stpA,stpB,stpC])
  refine takeT 1 rfl (by assumption) ?_
  (try simp only [Act.put,stpA,stpB,stpC])
  refine takeT 2 rfl (by assumption) ?_
  (try simp only [Act.put,stpA,stpB,stpC])
  refine takeT 3 rfl (by assumption) ?_
  (try simp only [Act.put,stpA,stpB,stpC])
  refine takeT 4 rfl (by assumption) ?_
  (try simp only [Act.put,stpA,stpB,stpC])
  refine takeT 5 rfl (by assumption) ?_
  (try simp only [Act.put,stpA,stpB,stpC])
  refine takeT 6 rfl (by assumption) ?_
  (try simp only [Act.put,stpA,stpB,stpC])
  refine takeT 7 rfl (by assumption) ?_
  (try simp only [Act.put,stpA,stpB,stpC])
  refine takeT 8 rfl (by assumption) ?_
  (try simp only [Act.put,stpA,stpB,stpC])
  refine takeT 9 rfl (by assumption) ?_
  (try simp only [Act.put,stpA,stpB,stpC])
  refine takeT 10 rfl (by assumption) ?_
  (try simp only [Act.put,stpA,stpB,stpC])
  refine takeT 11 rfl (by assumption) ?_
  (try simp only [Act.put,stpA,stpB,stpC])
  refine wpAnyH_done (by kernel_rfl) ?_ _
  clear hHeld HSS
  obtain ⟨W9,hW9⟩:∃ z,z=W8.drew:=⟨_,rfl⟩
  rw [← hW9]
  have hv:Up W8 W9:=by rw [hW9];exact (Up.refl _).drew
  have r0:=hv.keep _ _ _ r0
  have r1:=hv.keep _ _ _ r1
  have r2:=hv.keep _ _ _ r2
  have r3:=hv.keep _ _ _ r3
  have r4:=hv.keep _ _ _ r4
  have r5:=hv.keep _ _ _ r5
  have h0_:=hv.keep _ _ _ h0_
  have h1_:=hv.keep _ _ _ h1_
  have g0_:=hv.keep _ _ _ g0_
  have g1_:=hv.keep _ _ _ g1_
  have HW:=Lib.hid (HW.out.trans hv)
  clear hv hW9 d0 d1 d2 d3 d4 d5 d6 m0 m1 m2 m3 m4 m5 m6 a0 a1 a2 a3 a4 a5
  have z0:=HW.out.ownGe (g:=w.heap.size+1) (by omega) 0
  have z1:=HW.out.ownGe (g:=w.heap.size+1) (by omega) 1
  have z2:=HW.out.ownGe (g:=w.heap.size+1) (by omega) 2
  have z3:=HW.out.ownGe (g:=w.heap.size+1) (by omega) 3
  have z4:=HW.out.ownGe (g:=w.heap.size+1) (by omega) 4
  have z5:=HW.out.ownGe (g:=w.heap.size+1) (by omega) 5
  have hls:=World.block_lt_of_cell? _ _ r0
  go_wp2_with fail
  refine bodyPost_ret (v:=.tuple #[.agg #[.int .i64 y0,.int .i64 y1,.int .i64 y0,.int .i64 y1,.int .i64 x0,.int .i64 x1],.int .i64 0]) (by simp [results,Tryz.results12,go_sem,r0,r1,r2,r3,r4,r5]) rfl ⟨rfl,?_⟩
  exact HW.out.setP6 (by omega)

theorem rask14_up (v q c now seq:Int) (n k:Nat) (A:Option Addr) (X:List Mrk) (hn:n≤50000) (w:World) (hS:SG cM w A n X) :
    Calls Tryz.prog 12 #[.agg #[.int .i64 v,.int .i64 q,.int .i64 c,.int .i64 now,.int .i64 seq,.slice A n k]] w fun e w'=>e=.returned (akS (stP v q c now seq X) (spR (enM now v X).1) (spR (enM now v X).2))∧Up w w':=by
  cases hv:stP v q c now seq X with
  | false=>exact rask14_bad v q c now seq n k A X hn hv w hS
  | true =>
    by_cases h0:n=0
    · have e:X=[]:=List.eq_nil_of_length_eq_zero (by rw [hS.1];exact h0)
      rw [show enM now v X=(mk0,mk0) by rw [e];rfl,spR_0 (show mk0.n=0 from rfl)]
      exact rask14_none v q c now seq n k A X hn hv h0 w hS
    cases hl:liveB now v (X.getD 0 mk0).t with
    | true =>
      rw [show enM now v X=(X.getD 0 mk0,X.getD 0 mk0) by
        match X,hl,hS.1 with
        | [a],_,_=>rfl
        | a :: b :: R,hl,_=>exact if_pos hl
        | [],_,h=>exact absurd h.symm h0]
      exact rask14_first v q c now seq n k A X hn hv (by omega) hl w hS
    | false =>
      have h1:1<n:=by
        rcases Nat.lt_or_ge 1 n with h | h
        · exact h
        · have:=(stP_my hv).2.1 (by rw [hS.1];omega)
          rw [hl] at this;cases this
      obtain ⟨T,e⟩:=list_two' (X:=X) (by rw [hS.1];exact h1)
      have ee:enM now v X=if (X.getD 1 mk0).sq=(X.getD 0 mk0).sq+1 then (X.getD 1 mk0,X.getD 1 mk0) else (X.getD 1 mk0,X.getD 0 mk0):=by
        conv=>lhs;rw [e]
        exact if_neg (by rw [hl];exact Bool.false_ne_true)
      by_cases hq:(X.getD 1 mk0).sq=(X.getD 0 mk0).sq+1
      · rw [ee,if_pos hq]
        exact rask14_second v q c now seq n k A X hn hv h1 hl hq w hS
      · rw [ee,if_neg hq]
        exact rask14_both v q c now seq n k A X hn hv h1 hl hq w hS
end Go.Proofs.YtafkoddgefcpnaaGreat
