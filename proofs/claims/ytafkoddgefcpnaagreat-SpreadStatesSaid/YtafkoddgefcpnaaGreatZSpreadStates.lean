/- Proved: for every state, tick and value the law SpreadStates returns true: Validate, Advance, Add and Ask of package spread answer as the reference does. Conditions: none. -/
import Derived.Test.YtafkoddgefcpnaaGreatRows
import Derived.Test.YtafkoddgefcpnaaGreatZLFrameq72
import Derived.Test.YtafkoddgefcpnaaGreatZLStsq181
namespace Go.Proofs.YtafkoddgefcpnaaGreat
open Go.ChangeShapes Go.WideShapes Go.ChangeAt Go.RowKit Go.Joins
set_option linter.unusedVariables false

theorem spreadStates_own:ownKnob Tryz.prog.godebug=none:=by kernel_rfl

set_option maxHeartbeats 16000000 in
set_option maxRecDepth 100000 in
theorem spreadStates_walk (v q c now seq:Int) (n k:Nat) (A:Option Addr) (X:List Mrk) (hk:n≤k) (td:Int) (_:(Lit.int .i64 td).wf=true) (d:Int) (_:(Lit.int .i64 d).wf=true) (w:World) (hS:SG cM w A n X) :
    Calls Tryz.prog 3 #[.agg #[.int .i64 v,.int .i64 q,.int .i64 c,.int .i64 now,.int .i64 seq,.slice A n k],.int .i64 td,.int .i64 d] w fun e w'=>e=.returned (.bool true)∧Up w w':=by
  have KA:=Lib.hid awake14_up
  have KF:=Lib.hid (few14_any v q c now seq n k A)
  by_cases hf:n≤300
  case neg =>
    rw [decide_eq_false (show ¬ (n:Int)≤300 by omega)] at KF
    clear hS hk
    go_enter Tryz.func3,Tryz.ntmps3
    go_wp2_with (first
      | (go_at_call 5;(with_reducible refine (KF.out _).mono ?_);rintro e w1 ⟨rfl,hu⟩;have HU1:=Lib.hid (((Up.refl w).alloc _ _).trans hu);clear hu)
      | (go_at_call 6;(with_reducible refine (KA.out _).mono ?_);rintro e w2 ⟨rfl,hu⟩;have HU2:=Lib.hid (HU1.out.trans hu);clear hu))
    go_ret
    exact ⟨rfl,HU2.out⟩
  rw [decide_eq_true (show (n:Int)≤300 by omega)] at KF
  have HS:=Lib.hid hS
  have hn:n≤50000:=by omega
  obtain ⟨a0,a1,a2,a3,a4,M,e0,h1⟩:∃ a0 a1 a2 a3 a4 M e0,advP v q c now seq td X=(a0,a1,a2,a3,a4,M,e0):=⟨_,_,_,_,_,_,_,rfl⟩
  obtain ⟨b0,b1,b2,b3,b4,N,f0,h2⟩:∃ b0 b1 b2 b3 b4 N f0,addP v q c now seq d X=(b0,b1,b2,b3,b4,N,f0):=⟨_,_,_,_,_,_,_,rfl⟩
  obtain ⟨x0,x1,x2,x3,x4,x5,g0,h3⟩:=akS_agg (stP v q c now seq X) (spR (enM now v X).1) (spR (enM now v X).2)
  have K1:=Lib.hid (fun W (h:SG cM W A n X)=>adv14_all v q c now seq td n k A X hn hk h1 W h)
  have K2:=Lib.hid (fun W (h:SG cM W A n X)=>radv14_all v q c now seq td n k A X hn hk h1 W h)
  have K3:=Lib.hid (fun W (h:SG cM W A n X)=>add14_all v q c now seq d n k A X hn hk h2 W h)
  have K4:=Lib.hid (fun W (h:SG cM W A n X)=>radd14_all v q c now seq d n k A X hn hk h2 W h)
  have K5:=Lib.hid (fun W (h:SG cM W A n X)=>ask14_up v q c now seq n k A X hn W h)
  have K6:=Lib.hid (fun W (h:SG cM W A n X)=>rask14_up v q c now seq n k A X hn W h)
  have K7:=Lib.hid (fun W (h:SG cM W A n X)=>validate14_up v q c now seq n k A X hn W h)
  have K8:=Lib.hid (fun W (h:SG cM W A n X)=>rvalidate14_up v q c now seq n k A X hn W h)
  rw [h3] at K5 K6
  generalize stPE v q c now seq X=y at *
  have K9:=Lib.hid (fun W A1 A2 k1 k2 (hl:M.length≤1000000) (hA:SG cM W A1 M.length M) (hB:SG cM W A2 M.length M)=>same14_t a0 a1 a2 a3 a4 M.length k1 k2 A1 A2 M hl W hA hB)
  have K10:=Lib.hid (fun W A1 A2 k1 k2 (hl:N.length≤1000000) (hA:SG cM W A1 N.length N) (hB:SG cM W A2 N.length N)=>same14_t b0 b1 b2 b3 b4 N.length k1 k2 A1 A2 N hl W hA hB)
  clear h1 h2 h3 hS hk
  generalize M.length=m at *
  generalize N.length=l at *
  have tt1:(e0 == e0)=true:=by simp
  have tt2:(f0 == f0)=true:=by simp
  have tt3:(g0 == g0)=true:=by simp
  have tt4:(y == y)=true:=by simp
  have qe:=fun W=>eqB6 x0 x1 x2 x3 x4 x5 W
  go_enter Tryz.func3,Tryz.ntmps3
  go_upto_region 9 with (first
    | (go_at_call 5;(with_reducible refine (KF.out _).mono ?_);rintro e w1 ⟨rfl,hu⟩;have hv:=((Up.refl w).alloc #[.int .i64 v,.int .i64 q,.int .i64 c,.int .i64 now,.int .i64 seq,.slice A n k] 24).trans hu;have HV1:=Lib.hid hv;have HU1:=Lib.hid ((Up.refl w).trans hv);have s_1_0:=hu.keep (w.heap.size) 0 (.int .i64 v) (by simp [go_sem]);have s_1_1:=hu.keep (w.heap.size) 1 (.int .i64 q) (by simp [go_sem]);have s_1_2:=hu.keep (w.heap.size) 2 (.int .i64 c) (by simp [go_sem]);have s_1_3:=hu.keep (w.heap.size) 3 (.int .i64 now) (by simp [go_sem]);have s_1_4:=hu.keep (w.heap.size) 4 (.int .i64 seq) (by simp [go_sem]);have s_1_5:=hu.keep (w.heap.size) 5 (.slice A n k) (by simp [go_sem]);have ls1:=World.block_lt_of_cell? _ _ s_1_0;clear hu hv )
    | (go_at_call 7;(with_reducible refine (K1.out _ (HS.out.up HU1.out)).mono ?_);rintro e w2 ⟨A1,k1,rfl,hq1,hM1,hu⟩;have hv:=(Up.refl w1).trans hu;have HV2:=Lib.hid hv;have HU2:=Lib.hid (HU1.out.trans hv);have s_2_0:=hv.keep _ _ _ s_1_0;have s_2_1:=hv.keep _ _ _ s_1_1;have s_2_2:=hv.keep _ _ _ s_1_2;have s_2_3:=hv.keep _ _ _ s_1_3;have s_2_4:=hv.keep _ _ _ s_1_4;have s_2_5:=hv.keep _ _ _ s_1_5;have ls2:=World.block_lt_of_cell? _ _ s_2_0;have HM1:=Lib.hid hM1;have HQ1:=Lib.hid hq1;clear hM1 hq1;clear hu hv ls1 s_1_0 s_1_1 s_1_2 s_1_3 s_1_4 s_1_5)
    | (go_at_call 8;(with_reducible refine (K2.out _ (HS.out.up (HU2.out.alloc _ _))).mono ?_);rintro e w3 ⟨A2,k2,rfl,hq2,hM2,hu⟩;have hv:=((Up.refl w2).alloc #[.int .i64 a0,.int .i64 a1,.int .i64 a2,.int .i64 a3,.int .i64 a4,.slice A1 m k1] 24).trans hu;have HV3:=Lib.hid hv;have HU3:=Lib.hid (HU2.out.trans hv);have s_3_0:=hv.keep _ _ _ s_2_0;have s_3_1:=hv.keep _ _ _ s_2_1;have s_3_2:=hv.keep _ _ _ s_2_2;have s_3_3:=hv.keep _ _ _ s_2_3;have s_3_4:=hv.keep _ _ _ s_2_4;have s_3_5:=hv.keep _ _ _ s_2_5;have r_3_0:=hu.keep (w2.heap.size) 0 (.int .i64 a0) (by simp [go_sem]);have r_3_1:=hu.keep (w2.heap.size) 1 (.int .i64 a1) (by simp [go_sem]);have r_3_2:=hu.keep (w2.heap.size) 2 (.int .i64 a2) (by simp [go_sem]);have r_3_3:=hu.keep (w2.heap.size) 3 (.int .i64 a3) (by simp [go_sem]);have r_3_4:=hu.keep (w2.heap.size) 4 (.int .i64 a4) (by simp [go_sem]);have r_3_5:=hu.keep (w2.heap.size) 5 (.slice A1 m k1) (by simp [go_sem]);have ls3:=World.block_lt_of_cell? _ _ s_3_0;have lr3:=World.block_lt_of_cell? _ _ r_3_0;have HM2:=Lib.hid hM2;have HM1:=Lib.hid (HM1.out.up hv);clear hM2 hq2;clear hu hv ls2 s_2_0 s_2_1 s_2_2 s_2_3 s_2_4 s_2_5)
    | (go_at_call 9;(with_reducible refine (K3.out _ (HS.out.up (HU3.out.alloc _ _))).mono ?_);rintro e w4 ⟨A3,k3,rfl,hq3,hM3,hu⟩;have hv:=((Up.refl w3).alloc #[.int .i64 a0,.int .i64 a1,.int .i64 a2,.int .i64 a3,.int .i64 a4,.slice A2 m k2] 24).trans hu;have HV4:=Lib.hid hv;have HU4:=Lib.hid (HU3.out.trans hv);have s_4_0:=hv.keep _ _ _ s_3_0;have s_4_1:=hv.keep _ _ _ s_3_1;have s_4_2:=hv.keep _ _ _ s_3_2;have s_4_3:=hv.keep _ _ _ s_3_3;have s_4_4:=hv.keep _ _ _ s_3_4;have s_4_5:=hv.keep _ _ _ s_3_5;have r_4_0:=hv.keep _ _ _ r_3_0;have r_4_1:=hv.keep _ _ _ r_3_1;have r_4_2:=hv.keep _ _ _ r_3_2;have r_4_3:=hv.keep _ _ _ r_3_3;have r_4_4:=hv.keep _ _ _ r_3_4;have r_4_5:=hv.keep _ _ _ r_3_5;have t_4_0:=hu.keep (w3.heap.size) 0 (.int .i64 a0) (by simp [go_sem]);have t_4_1:=hu.keep (w3.heap.size) 1 (.int .i64 a1) (by simp [go_sem]);have t_4_2:=hu.keep (w3.heap.size) 2 (.int .i64 a2) (by simp [go_sem]);have t_4_3:=hu.keep (w3.heap.size) 3 (.int .i64 a3) (by simp [go_sem]);have t_4_4:=hu.keep (w3.heap.size) 4 (.int .i64 a4) (by simp [go_sem]);have t_4_5:=hu.keep (w3.heap.size) 5 (.slice A2 m k2) (by simp [go_sem]);have ls4:=World.block_lt_of_cell? _ _ s_4_0;have lr4:=World.block_lt_of_cell? _ _ r_4_0;have lt4:=World.block_lt_of_cell? _ _ t_4_0;have HM3:=Lib.hid hM3;have HQ3:=Lib.hid hq3;have HM1:=Lib.hid (HM1.out.up hv);have HM2:=Lib.hid (HM2.out.up hv);clear hM3 hq3;clear hu hv ls3 s_3_0 s_3_1 s_3_2 s_3_3 s_3_4 s_3_5 lr3 r_3_0 r_3_1 r_3_2 r_3_3 r_3_4 r_3_5)
    | (go_at_call 10;(with_reducible refine (K4.out _ (HS.out.up (HU4.out.alloc _ _))).mono ?_);rintro e w5 ⟨A4,k4,rfl,hq4,hM4,hu⟩;have hv:=((Up.refl w4).alloc #[.int .i64 b0,.int .i64 b1,.int .i64 b2,.int .i64 b3,.int .i64 b4,.slice A3 l k3] 24).trans hu;have HV5:=Lib.hid hv;have HU5:=Lib.hid (HU4.out.trans hv);have s_5_0:=hv.keep _ _ _ s_4_0;have s_5_1:=hv.keep _ _ _ s_4_1;have s_5_2:=hv.keep _ _ _ s_4_2;have s_5_3:=hv.keep _ _ _ s_4_3;have s_5_4:=hv.keep _ _ _ s_4_4;have s_5_5:=hv.keep _ _ _ s_4_5;have r_5_0:=hv.keep _ _ _ r_4_0;have r_5_1:=hv.keep _ _ _ r_4_1;have r_5_2:=hv.keep _ _ _ r_4_2;have r_5_3:=hv.keep _ _ _ r_4_3;have r_5_4:=hv.keep _ _ _ r_4_4;have r_5_5:=hv.keep _ _ _ r_4_5;have t_5_0:=hv.keep _ _ _ t_4_0;have t_5_1:=hv.keep _ _ _ t_4_1;have t_5_2:=hv.keep _ _ _ t_4_2;have t_5_3:=hv.keep _ _ _ t_4_3;have t_5_4:=hv.keep _ _ _ t_4_4;have t_5_5:=hv.keep _ _ _ t_4_5;have u_5_0:=hu.keep (w4.heap.size) 0 (.int .i64 b0) (by simp [go_sem]);have u_5_1:=hu.keep (w4.heap.size) 1 (.int .i64 b1) (by simp [go_sem]);have u_5_2:=hu.keep (w4.heap.size) 2 (.int .i64 b2) (by simp [go_sem]);have u_5_3:=hu.keep (w4.heap.size) 3 (.int .i64 b3) (by simp [go_sem]);have u_5_4:=hu.keep (w4.heap.size) 4 (.int .i64 b4) (by simp [go_sem]);have u_5_5:=hu.keep (w4.heap.size) 5 (.slice A3 l k3) (by simp [go_sem]);have ls5:=World.block_lt_of_cell? _ _ s_5_0;have lr5:=World.block_lt_of_cell? _ _ r_5_0;have lt5:=World.block_lt_of_cell? _ _ t_5_0;have lu5:=World.block_lt_of_cell? _ _ u_5_0;have HM4:=Lib.hid hM4;have HM1:=Lib.hid (HM1.out.up hv);have HM2:=Lib.hid (HM2.out.up hv);have HM3:=Lib.hid (HM3.out.up hv);clear hM4 hq4;clear hu hv ls4 s_4_0 s_4_1 s_4_2 s_4_3 s_4_4 s_4_5 lr4 r_4_0 r_4_1 r_4_2 r_4_3 r_4_4 r_4_5 lt4 t_4_0 t_4_1 t_4_2 t_4_3 t_4_4 t_4_5)
    | (go_at_call 11;(with_reducible refine (K5.out _ (HS.out.up (HU5.out.alloc _ _))).mono ?_);rintro e w6 ⟨rfl,hu⟩;have hv:=((Up.refl w5).alloc #[.int .i64 b0,.int .i64 b1,.int .i64 b2,.int .i64 b3,.int .i64 b4,.slice A4 l k4] 24).trans hu;have HV6:=Lib.hid hv;have HU6:=Lib.hid (HU5.out.trans hv);have s_6_0:=hv.keep _ _ _ s_5_0;have s_6_1:=hv.keep _ _ _ s_5_1;have s_6_2:=hv.keep _ _ _ s_5_2;have s_6_3:=hv.keep _ _ _ s_5_3;have s_6_4:=hv.keep _ _ _ s_5_4;have s_6_5:=hv.keep _ _ _ s_5_5;have r_6_0:=hv.keep _ _ _ r_5_0;have r_6_1:=hv.keep _ _ _ r_5_1;have r_6_2:=hv.keep _ _ _ r_5_2;have r_6_3:=hv.keep _ _ _ r_5_3;have r_6_4:=hv.keep _ _ _ r_5_4;have r_6_5:=hv.keep _ _ _ r_5_5;have t_6_0:=hv.keep _ _ _ t_5_0;have t_6_1:=hv.keep _ _ _ t_5_1;have t_6_2:=hv.keep _ _ _ t_5_2;have t_6_3:=hv.keep _ _ _ t_5_3;have t_6_4:=hv.keep _ _ _ t_5_4;have t_6_5:=hv.keep _ _ _ t_5_5;have u_6_0:=hv.keep _ _ _ u_5_0;have u_6_1:=hv.keep _ _ _ u_5_1;have u_6_2:=hv.keep _ _ _ u_5_2;have u_6_3:=hv.keep _ _ _ u_5_3;have u_6_4:=hv.keep _ _ _ u_5_4;have u_6_5:=hv.keep _ _ _ u_5_5;have v_6_0:=hu.keep (w5.heap.size) 0 (.int .i64 b0) (by simp [go_sem]);have v_6_1:=hu.keep (w5.heap.size) 1 (.int .i64 b1) (by simp [go_sem]);have v_6_2:=hu.keep (w5.heap.size) 2 (.int .i64 b2) (by simp [go_sem]);have v_6_3:=hu.keep (w5.heap.size) 3 (.int .i64 b3) (by simp [go_sem]);have v_6_4:=hu.keep (w5.heap.size) 4 (.int .i64 b4) (by simp [go_sem]);have v_6_5:=hu.keep (w5.heap.size) 5 (.slice A4 l k4) (by simp [go_sem]);have ls6:=World.block_lt_of_cell? _ _ s_6_0;have lr6:=World.block_lt_of_cell? _ _ r_6_0;have lt6:=World.block_lt_of_cell? _ _ t_6_0;have lu6:=World.block_lt_of_cell? _ _ u_6_0;have lv6:=World.block_lt_of_cell? _ _ v_6_0;have HM1:=Lib.hid (HM1.out.up hv);have HM2:=Lib.hid (HM2.out.up hv);have HM3:=Lib.hid (HM3.out.up hv);have HM4:=Lib.hid (HM4.out.up hv);clear hu hv ls5 s_5_0 s_5_1 s_5_2 s_5_3 s_5_4 s_5_5 lr5 r_5_0 r_5_1 r_5_2 r_5_3 r_5_4 r_5_5 lt5 t_5_0 t_5_1 t_5_2 t_5_3 t_5_4 t_5_5 lu5 u_5_0 u_5_1 u_5_2 u_5_3 u_5_4 u_5_5)
    | (go_at_call 12;(with_reducible refine (K6.out _ (HS.out.up (HU6.out.alloc _ _))).mono ?_);rintro e w7 ⟨rfl,hu⟩;have hv:=((Up.refl w6).alloc #[.int .i64 x0,.int .i64 x1,.int .i64 x2,.int .i64 x3,.int .i64 x4,.int .i64 x5] 33).trans hu;have HV7:=Lib.hid hv;have HU7:=Lib.hid (HU6.out.trans hv);have s_7_0:=hv.keep _ _ _ s_6_0;have s_7_1:=hv.keep _ _ _ s_6_1;have s_7_2:=hv.keep _ _ _ s_6_2;have s_7_3:=hv.keep _ _ _ s_6_3;have s_7_4:=hv.keep _ _ _ s_6_4;have s_7_5:=hv.keep _ _ _ s_6_5;have r_7_0:=hv.keep _ _ _ r_6_0;have r_7_1:=hv.keep _ _ _ r_6_1;have r_7_2:=hv.keep _ _ _ r_6_2;have r_7_3:=hv.keep _ _ _ r_6_3;have r_7_4:=hv.keep _ _ _ r_6_4;have r_7_5:=hv.keep _ _ _ r_6_5;have t_7_0:=hv.keep _ _ _ t_6_0;have t_7_1:=hv.keep _ _ _ t_6_1;have t_7_2:=hv.keep _ _ _ t_6_2;have t_7_3:=hv.keep _ _ _ t_6_3;have t_7_4:=hv.keep _ _ _ t_6_4;have t_7_5:=hv.keep _ _ _ t_6_5;have u_7_0:=hv.keep _ _ _ u_6_0;have u_7_1:=hv.keep _ _ _ u_6_1;have u_7_2:=hv.keep _ _ _ u_6_2;have u_7_3:=hv.keep _ _ _ u_6_3;have u_7_4:=hv.keep _ _ _ u_6_4;have u_7_5:=hv.keep _ _ _ u_6_5;have v_7_0:=hv.keep _ _ _ v_6_0;have v_7_1:=hv.keep _ _ _ v_6_1;have v_7_2:=hv.keep _ _ _ v_6_2;have v_7_3:=hv.keep _ _ _ v_6_3;have v_7_4:=hv.keep _ _ _ v_6_4;have v_7_5:=hv.keep _ _ _ v_6_5;have p_7_0:=hu.keep (w6.heap.size) 0 (.int .i64 x0) (by simp [go_sem]);have p_7_1:=hu.keep (w6.heap.size) 1 (.int .i64 x1) (by simp [go_sem]);have p_7_2:=hu.keep (w6.heap.size) 2 (.int .i64 x2) (by simp [go_sem]);have p_7_3:=hu.keep (w6.heap.size) 3 (.int .i64 x3) (by simp [go_sem]);have p_7_4:=hu.keep (w6.heap.size) 4 (.int .i64 x4) (by simp [go_sem]);have p_7_5:=hu.keep (w6.heap.size) 5 (.int .i64 x5) (by simp [go_sem]);have ls7:=World.block_lt_of_cell? _ _ s_7_0;have lr7:=World.block_lt_of_cell? _ _ r_7_0;have lt7:=World.block_lt_of_cell? _ _ t_7_0;have lu7:=World.block_lt_of_cell? _ _ u_7_0;have lv7:=World.block_lt_of_cell? _ _ v_7_0;have lp7:=World.block_lt_of_cell? _ _ p_7_0;have HM1:=Lib.hid (HM1.out.up hv);have HM2:=Lib.hid (HM2.out.up hv);have HM3:=Lib.hid (HM3.out.up hv);have HM4:=Lib.hid (HM4.out.up hv);clear hu hv ls6 s_6_0 s_6_1 s_6_2 s_6_3 s_6_4 s_6_5 lr6 r_6_0 r_6_1 r_6_2 r_6_3 r_6_4 r_6_5 lt6 t_6_0 t_6_1 t_6_2 t_6_3 t_6_4 t_6_5 lu6 u_6_0 u_6_1 u_6_2 u_6_3 u_6_4 u_6_5 lv6 v_6_0 v_6_1 v_6_2 v_6_3 v_6_4 v_6_5))
  obtain ⟨ws,hws⟩:∃ z,z=w7.alloc (.cells #[.int .i64 x0,.int .i64 x1,.int .i64 x2,.int .i64 x3,.int .i64 x4,.int .i64 x5] 33):=⟨_,rfl⟩
  rw [← hws]
  have hv:Up w7 ws:=by rw [hws];exact (Up.refl _).alloc _ _
  have o_7_0:ws.cell? ⟨w7.heap.size,0,none⟩=some (.int .i64 x0):=by rw [hws];simp [go_sem]
  have o_7_1:ws.cell? ⟨w7.heap.size,1,none⟩=some (.int .i64 x1):=by rw [hws];simp [go_sem]
  have o_7_2:ws.cell? ⟨w7.heap.size,2,none⟩=some (.int .i64 x2):=by rw [hws];simp [go_sem]
  have o_7_3:ws.cell? ⟨w7.heap.size,3,none⟩=some (.int .i64 x3):=by rw [hws];simp [go_sem]
  have o_7_4:ws.cell? ⟨w7.heap.size,4,none⟩=some (.int .i64 x4):=by rw [hws];simp [go_sem]
  have o_7_5:ws.cell? ⟨w7.heap.size,5,none⟩=some (.int .i64 x5):=by rw [hws];simp [go_sem]
  have s_7_0:=hv.keep _ _ _ s_7_0
  have s_7_1:=hv.keep _ _ _ s_7_1
  have s_7_2:=hv.keep _ _ _ s_7_2
  have s_7_3:=hv.keep _ _ _ s_7_3
  have s_7_4:=hv.keep _ _ _ s_7_4
  have s_7_5:=hv.keep _ _ _ s_7_5
  have r_7_0:=hv.keep _ _ _ r_7_0
  have r_7_1:=hv.keep _ _ _ r_7_1
  have r_7_2:=hv.keep _ _ _ r_7_2
  have r_7_3:=hv.keep _ _ _ r_7_3
  have r_7_4:=hv.keep _ _ _ r_7_4
  have r_7_5:=hv.keep _ _ _ r_7_5
  have t_7_0:=hv.keep _ _ _ t_7_0
  have t_7_1:=hv.keep _ _ _ t_7_1
  have t_7_2:=hv.keep _ _ _ t_7_2
  have t_7_3:=hv.keep _ _ _ t_7_3
  have t_7_4:=hv.keep _ _ _ t_7_4
  have t_7_5:=hv.keep _ _ _ t_7_5
  have u_7_0:=hv.keep _ _ _ u_7_0
  have u_7_1:=hv.keep _ _ _ u_7_1
  have u_7_2:=hv.keep _ _ _ u_7_2
  have u_7_3:=hv.keep _ _ _ u_7_3
  have u_7_4:=hv.keep _ _ _ u_7_4
  have u_7_5:=hv.keep _ _ _ u_7_5
  have v_7_0:=hv.keep _ _ _ v_7_0
  have v_7_1:=hv.keep _ _ _ v_7_1
  have v_7_2:=hv.keep _ _ _ v_7_2
  have v_7_3:=hv.keep _ _ _ v_7_3
  have v_7_4:=hv.keep _ _ _ v_7_4
  have v_7_5:=hv.keep _ _ _ v_7_5
  have p_7_0:=hv.keep _ _ _ p_7_0
  have p_7_1:=hv.keep _ _ _ p_7_1
  have p_7_2:=hv.keep _ _ _ p_7_2
  have p_7_3:=hv.keep _ _ _ p_7_3
  have p_7_4:=hv.keep _ _ _ p_7_4
  have p_7_5:=hv.keep _ _ _ p_7_5
  have HW:=Lib.hid (HU7.out.trans hv)
  have HM1:=Lib.hid (HM1.out.up hv)
  have HM2:=Lib.hid (HM2.out.up hv)
  have HM3:=Lib.hid (HM3.out.up hv)
  have HM4:=Lib.hid (HM4.out.up hv)
  clear hv hws
  generalize w2.heap.size=p2 at *
  generalize w3.heap.size=p3 at *
  generalize w4.heap.size=p4 at *
  generalize w5.heap.size=p5 at *
  generalize w6.heap.size=p6 at *
  generalize w7.heap.size=p7 at *
  have HSS:Hid (Up ws ws∧ws.cell? ⟨w.heap.size,0,none⟩=some (.int .i64 v)∧ws.cell? ⟨w.heap.size,1,none⟩=some (.int .i64 q)∧ws.cell? ⟨w.heap.size,2,none⟩=some (.int .i64 c)∧ws.cell? ⟨w.heap.size,3,none⟩=some (.int .i64 now)∧ws.cell? ⟨w.heap.size,4,none⟩=some (.int .i64 seq)∧ws.cell? ⟨w.heap.size,5,none⟩=some (.slice A n k)∧ws.cell? ⟨p2,0,none⟩=some (.int .i64 a0)∧ws.cell? ⟨p2,1,none⟩=some (.int .i64 a1)∧ws.cell? ⟨p2,2,none⟩=some (.int .i64 a2)∧ws.cell? ⟨p2,3,none⟩=some (.int .i64 a3)∧ws.cell? ⟨p2,4,none⟩=some (.int .i64 a4)∧ws.cell? ⟨p2,5,none⟩=some (.slice A1 m k1)∧ws.cell? ⟨p3,0,none⟩=some (.int .i64 a0)∧ws.cell? ⟨p3,1,none⟩=some (.int .i64 a1)∧ws.cell? ⟨p3,2,none⟩=some (.int .i64 a2)∧ws.cell? ⟨p3,3,none⟩=some (.int .i64 a3)∧ws.cell? ⟨p3,4,none⟩=some (.int .i64 a4)∧ws.cell? ⟨p3,5,none⟩=some (.slice A2 m k2)∧ws.cell? ⟨p4,0,none⟩=some (.int .i64 b0)∧ws.cell? ⟨p4,1,none⟩=some (.int .i64 b1)∧ws.cell? ⟨p4,2,none⟩=some (.int .i64 b2)∧ws.cell? ⟨p4,3,none⟩=some (.int .i64 b3)∧ws.cell? ⟨p4,4,none⟩=some (.int .i64 b4)∧ws.cell? ⟨p4,5,none⟩=some (.slice A3 l k3)∧ws.cell? ⟨p5,0,none⟩=some (.int .i64 b0)∧ws.cell? ⟨p5,1,none⟩=some (.int .i64 b1)∧ws.cell? ⟨p5,2,none⟩=some (.int .i64 b2)∧ws.cell? ⟨p5,3,none⟩=some (.int .i64 b3)∧ws.cell? ⟨p5,4,none⟩=some (.int .i64 b4)∧ws.cell? ⟨p5,5,none⟩=some (.slice A4 l k4)∧ws.cell? ⟨p6,0,none⟩=some (.int .i64 x0)∧ws.cell? ⟨p6,1,none⟩=some (.int .i64 x1)∧ws.cell? ⟨p6,2,none⟩=some (.int .i64 x2)∧ws.cell? ⟨p6,3,none⟩=some (.int .i64 x3)∧ws.cell? ⟨p6,4,none⟩=some (.int .i64 x4)∧ws.cell? ⟨p6,5,none⟩=some (.int .i64 x5)∧ws.cell? ⟨p7,0,none⟩=some (.int .i64 x0)∧ws.cell? ⟨p7,1,none⟩=some (.int .i64 x1)∧ws.cell? ⟨p7,2,none⟩=some (.int .i64 x2)∧ws.cell? ⟨p7,3,none⟩=some (.int .i64 x3)∧ws.cell? ⟨p7,4,none⟩=some (.int .i64 x4)∧ws.cell? ⟨p7,5,none⟩=some (.int .i64 x5)):=Lib.hid ⟨Up.refl _,s_7_0,s_7_1,s_7_2,s_7_3,s_7_4,s_7_5,r_7_0,r_7_1,r_7_2,r_7_3,r_7_4,r_7_5,t_7_0,t_7_1,t_7_2,t_7_3,t_7_4,t_7_5,u_7_0,u_7_1,u_7_2,u_7_3,u_7_4,u_7_5,v_7_0,v_7_1,v_7_2,v_7_3,v_7_4,v_7_5,p_7_0,p_7_1,p_7_2,p_7_3,p_7_4,p_7_5,o_7_0,o_7_1,o_7_2,o_7_3,o_7_4,o_7_5⟩
  clear s_7_0 s_7_1 s_7_2 s_7_3 s_7_4 s_7_5 r_7_0 r_7_1 r_7_2 r_7_3 r_7_4 r_7_5 t_7_0 t_7_1 t_7_2 t_7_3 t_7_4 t_7_5 u_7_0 u_7_1 u_7_2 u_7_3 u_7_4 u_7_5 v_7_0 v_7_1 v_7_2 v_7_3 v_7_4 v_7_5 p_7_0 p_7_1 p_7_2 p_7_3 p_7_4 p_7_5 o_7_0 o_7_1 o_7_2 o_7_3 o_7_4 o_7_5
  go_wp2_with fail
  refine wp_region_held_drew (S:=fun w'=>Up ws w'∧w'.cell? ⟨w.heap.size,0,none⟩=some (.int .i64 v)∧w'.cell? ⟨w.heap.size,1,none⟩=some (.int .i64 q)∧w'.cell? ⟨w.heap.size,2,none⟩=some (.int .i64 c)∧w'.cell? ⟨w.heap.size,3,none⟩=some (.int .i64 now)∧w'.cell? ⟨w.heap.size,4,none⟩=some (.int .i64 seq)∧w'.cell? ⟨w.heap.size,5,none⟩=some (.slice A n k)∧w'.cell? ⟨p2,0,none⟩=some (.int .i64 a0)∧w'.cell? ⟨p2,1,none⟩=some (.int .i64 a1)∧w'.cell? ⟨p2,2,none⟩=some (.int .i64 a2)∧w'.cell? ⟨p2,3,none⟩=some (.int .i64 a3)∧w'.cell? ⟨p2,4,none⟩=some (.int .i64 a4)∧w'.cell? ⟨p2,5,none⟩=some (.slice A1 m k1)∧w'.cell? ⟨p3,0,none⟩=some (.int .i64 a0)∧w'.cell? ⟨p3,1,none⟩=some (.int .i64 a1)∧w'.cell? ⟨p3,2,none⟩=some (.int .i64 a2)∧w'.cell? ⟨p3,3,none⟩=some (.int .i64 a3)∧w'.cell? ⟨p3,4,none⟩=some (.int .i64 a4)∧w'.cell? ⟨p3,5,none⟩=some (.slice A2 m k2)∧w'.cell? ⟨p4,0,none⟩=some (.int .i64 b0)∧w'.cell? ⟨p4,1,none⟩=some (.int .i64 b1)∧w'.cell? ⟨p4,2,none⟩=some (.int .i64 b2)∧w'.cell? ⟨p4,3,none⟩=some (.int .i64 b3)∧w'.cell? ⟨p4,4,none⟩=some (.int .i64 b4)∧w'.cell? ⟨p4,5,none⟩=some (.slice A3 l k3)∧w'.cell? ⟨p5,0,none⟩=some (.int .i64 b0)∧w'.cell? ⟨p5,1,none⟩=some (.int .i64 b1)∧w'.cell? ⟨p5,2,none⟩=some (.int .i64 b2)∧w'.cell? ⟨p5,3,none⟩=some (.int .i64 b3)∧w'.cell? ⟨p5,4,none⟩=some (.int .i64 b4)∧w'.cell? ⟨p5,5,none⟩=some (.slice A4 l k4)∧w'.cell? ⟨p6,0,none⟩=some (.int .i64 x0)∧w'.cell? ⟨p6,1,none⟩=some (.int .i64 x1)∧w'.cell? ⟨p6,2,none⟩=some (.int .i64 x2)∧w'.cell? ⟨p6,3,none⟩=some (.int .i64 x3)∧w'.cell? ⟨p6,4,none⟩=some (.int .i64 x4)∧w'.cell? ⟨p6,5,none⟩=some (.int .i64 x5)∧w'.cell? ⟨p7,0,none⟩=some (.int .i64 x0)∧w'.cell? ⟨p7,1,none⟩=some (.int .i64 x1)∧w'.cell? ⟨p7,2,none⟩=some (.int .i64 x2)∧w'.cell? ⟨p7,3,none⟩=some (.int .i64 x3)∧w'.cell? ⟨p7,4,none⟩=some (.int .i64 x4)∧w'.cell? ⟨p7,5,none⟩=some (.int .i64 x5)) (by kernel_rfl) ?hB1 (fun hHeld=>?_)
  case hB1=>(with_reducible exact keepL42 (Lib.hid (Up.refl _).drew) HSS.out)
  refine takeT 0 rfl (by assumption) ?_
  (try simp only [Act.put,stpA,stpB,stpC])
  refine takeT 2 rfl (by assumption) ?_
  (try simp only [Act.put,stpA,stpB,stpC])
  refine wpAnyH_ready (rs:=[1]) (by kernel_rfl) (by simp) ?_
  refine AllReadyH.cons (o:=⟨_,_,_,_,_,_⟩) rfl (fun K hK=>?_) (AllReadyH.nil)
  go_simp
  (go_at_call 13;(with_reducible refine (K7.out _ (HS.out.up (HW.out.trans hHeld.1))).mono ?_);rintro e w11 ⟨rfl,hu⟩;have HU11:=Lib.hid hu;have HX11:=Lib.hid (keepL42 HU11 hHeld);clear hu)
  (try go_wp2_with fail)
  refine hK.out _ _ ?hB4 (fun hHeld=>?_)
  case hB4=>(with_reducible exact HX11.out)
  clear hK K
  (try simp only [Act.put,stpA,stpB,stpC])
  refine wpAnyH_ready (rs:=[3]) (by kernel_rfl) (by simp) ?_
  refine AllReadyH.cons (o:=⟨_,_,_,_,_,_⟩) rfl (fun K hK=>?_) (AllReadyH.nil)
  go_simp
  (go_at_call 14;(with_reducible refine (K8.out _ (HS.out.up (HW.out.trans hHeld.1))).mono ?_);rintro e w12 ⟨rfl,hu⟩;have HU12:=Lib.hid hu;have HX12:=Lib.hid (keepL42 HU12 hHeld);clear hu)
  (try go_wp2_with fail)
  refine hK.out _ _ ?hB5 (fun hHeld=>?_)
  case hB5=>(with_reducible exact HX12.out)
  clear hK K
  (try simp only [Act.put,stpA,stpB,stpC])
  refine takeT 4 rfl (by assumption) ?_
  (try simp only [Act.put,stpA,stpB,stpC])
  refine takeT 5 rfl (by assumption) ?_
  (try simp only [Act.put,stpA,stpB,stpC])
  refine takeT 6 rfl (by assumption) ?_
  (try simp only [Act.put,stpA,stpB,stpC])
  refine takeT 7 rfl (by assumption) ?_
  (try simp only [Act.put,stpA,stpB,stpC])
  refine wpAnyH_ready (rs:=[8]) (by kernel_rfl) (by simp) ?_
  refine AllReadyH.cons (o:=⟨_,_,_,_,_,_⟩) rfl (fun K hK=>?_) (AllReadyH.nil)
  go_simp
  (go_at_call 15;(with_reducible refine (K9.out _ A1 A2 k1 k2 (by have:=HQ1.out;omega) (HM1.out.up hHeld.1) (HM2.out.up hHeld.1)).mono ?_);rintro e w13 ⟨rfl,hu⟩;have HU13:=Lib.hid hu;have HX13:=Lib.hid (keepL42 HU13 hHeld);clear hu)
  (try go_wp2_with fail)
  refine hK.out _ _ ?hB10 (fun hHeld=>?_)
  case hB10=>(with_reducible exact HX13.out)
  clear hK K
  (try simp only [Act.put,stpA,stpB,stpC])
  refine takeT 9 rfl (by assumption) ?_
  (try simp only [Act.put,stpA,stpB,stpC])
  refine takeT 10 rfl (by assumption) ?_
  (try simp only [Act.put,stpA,stpB,stpC])
  refine takeT 11 rfl (by assumption) ?_
  (try simp only [Act.put,stpA,stpB,stpC])
  refine takeT 12 rfl (by assumption) ?_
  (try simp only [Act.put,stpA,stpB,stpC])
  refine takeT 13 rfl (by assumption) ?_
  (try simp only [Act.put,stpA,stpB,stpC])
  refine takeT 14 rfl (by assumption) ?_
  (try simp only [Act.put,stpA,stpB,stpC])
  refine takeT 15 rfl (by assumption) ?_
  (try simp only [Act.put,stpA,stpB,stpC])
  refine takeT 16 rfl (by assumption) ?_
  (try simp only [Act.put,stpA,stpB,stpC])
  refine takeT 17 rfl (by assumption) ?_
  (try simp only [Act.put,stpA,stpB,stpC])
  refine wpAnyH_ready (rs:=[18]) (by kernel_rfl) (by simp) ?_
  refine AllReadyH.cons (o:=⟨_,_,_,_,_,_⟩) rfl (fun K hK=>?_) (AllReadyH.nil)
  go_simp
  (go_at_call 15;(with_reducible refine (K10.out _ A3 A4 k3 k4 (by have:=HQ3.out;omega) (HM3.out.up hHeld.1) (HM4.out.up hHeld.1)).mono ?_);rintro e w14 ⟨rfl,hu⟩;have HU14:=Lib.hid hu;have HX14:=Lib.hid (keepL42 HU14 hHeld);clear hu)
  (try go_wp2_with fail)
  refine hK.out _ _ ?hB20 (fun hHeld=>?_)
  case hB20=>(with_reducible exact HX14.out)
  clear hK K
  (try simp only [Act.put,stpA,stpB,stpC])
  refine takeT 19 rfl (by assumption) ?_
  (try simp only [Act.put,stpA,stpB,stpC])
  refine takeT 20 rfl (by assumption) ?_
  (try simp only [Act.put,stpA,stpB,stpC])
  refine takeT 21 rfl (by assumption) ?_
  (try simp only [Act.put,stpA,stpB,stpC])
  refine takeT 22 rfl (by assumption) ?_
  (try simp only [Act.put,stpA,stpB,stpC])
  refine takeT 23 rfl (by assumption) ?_
  (try simp only [Act.put,stpA,stpB,stpC])
  refine takeT 24 rfl (by assumption) ?_
  (try simp only [Act.put,stpA,stpB,stpC])
  refine takeT 25 rfl (by assumption) ?_
  (try simp only [Act.put,stpA,stpB,stpC])
  refine takeT 26 rfl (by assumption) ?_
  (try simp only [Act.put,stpA,stpB,stpC])
  refine takeT 27 rfl (by assumption) ?_
  (try simp only [Act.put,stpA,stpB,stpC])
  refine takeT 28 rfl (by assumption) ?_
  (try simp only [Act.put,stpA,stpB,stpC])
  refine takeT 29 rfl (by assumption) ?_
  (try simp only [Act.put,stpA,stpB,stpC])
  refine takeT 30 rfl (by assumption) ?_
  (try simp only [Act.put,stpA,stpB,stpC])
  refine takeT 31 rfl (by assumption) ?_
  (try simp only [Act.put,stpA,stpB,stpC])
  refine takeT 32 rfl (by assumption) ?_
  (try simp only [Act.put,stpA,stpB,stpC])
  refine takeT 33 rfl (by assumption) ?_
  (try simp only [Act.put,stpA,stpB,stpC])
  refine takeT 34 rfl (by assumption) ?_
  (try simp only [Act.put,stpA,stpB,stpC])
  refine takeT 35 rfl (by assumption) ?_
  (try simp only [Act.put,stpA,stpB,stpC])
  refine wpAnyH_ready (rs:=[36]) (by kernel_rfl) (by simp) ?_
  refine AllReadyH.cons (o:=⟨_,_,_,_,_,_⟩) rfl (fun K hK=>?_) (AllReadyH.nil)
  go_simp
  (go_at_call 6;(with_reducible refine (KA.out _).mono ?_);rintro e w15 ⟨rfl,hu⟩;have HU15:=Lib.hid hu;have HX15:=Lib.hid (keepL42 HU15 hHeld);clear hu)
  (try go_wp2_with fail)
  refine hK.out _ _ ?hB38 (fun hHeld=>?_)
  case hB38=>(with_reducible exact HX15.out)
  clear hK K
  (try simp only [Act.put,stpA,stpB,stpC])
  refine takeT 37 rfl (by assumption) ?_
  (try simp only [Act.put,stpA,stpB,stpC])
  refine takeT 38 rfl (by assumption) ?_
  (try simp only [Act.put,stpA,stpB,stpC])
  refine wpAnyH_done (by kernel_rfl) ?_ _
  go_wp2_with fail
  go_ret
  exact ⟨rfl,HW.out.trans HX15.out.1⟩

set_option maxRecDepth 100000 in
theorem spreadStates_lifted (os:Os) (started:os.Started) (H:Type) (enc:TypeId × Value→H) :
    ReturnsInHanded {} Tryz.checked os 3 .any (Rows.spreadStatesSpec.pre6 enc Tryz.prog Tryz.f3 Rows.spreadStatesRow.domain false) (Rows.spreadStatesSpec.post enc Tryz.prog Tryz.f3 false true false false):=by
  refine returnsInHanded_of_change_sized (C:=Tryz.checked) spreadStates_own started (by kernel_rfl) Tryz.func3
    (ChangeSpec.witness6 (enc:=enc) (C:=Tryz.checked) false ⟨#[],#[.agg #[.int .i64 0,.int .i64 0,.int .i64 0,.int .i64 0,.int .i64 0,.slice none 0 0],.int .i64 0,.int .i64 0],[]⟩ 8 (by kernel_rfl) (by kernel_rfl) (by kernel_rfl) (by kernel_rfl)) ?_
  intro W base args ds gs before hval0 hW hcnd hsz0 _
  have hval:∀ (j:Nat) t v,Tryz.f3.params[j]?=some t→args[j]?=some v→Value.okWide Tryz.prog W .any base t v:=hval0
  have hW':=hW
  obtain ⟨p,q,hA0,hV,rfl,hfz,hnd⟩:=hW'
  have hA:DataW.TrodAll enc Tryz.prog W 0 (fun _=>true) true Tryz.f3.params.toList args.toList ds p:=hA0
  rw [Tryz.params3] at hA hval
  obtain ⟨v0,vs0,d0,ds0,p0,q0,hargs,rfl,rfl,h0,r0⟩:=trodAll_cons hA
  obtain ⟨v1,vs1,d1,ds1,p1,q1,rfl,rfl,rfl,h1,r1⟩:=trodAll_cons r0
  obtain ⟨v2,vs2,d2,ds2,p2,q2,rfl,rfl,rfl,h2,r2⟩:=trodAll_cons r1
  obtain ⟨rfl,rfl,rfl⟩:=trodAll_nil r2
  obtain rfl:args=#[v0,v1,v2]:=by cases args;simp_all
  obtain ⟨rfl,rfl⟩:=trodVars_none hV
  have hlt:=fun x hx=>hW.lt x hx
  have k0:=h0
  obtain ⟨b0,c0,e0,l0,o0,n0,m0,A0,L0,rfl,hk0,hS0⟩:=open_state14 (hval 0 24 v0 rfl rfl) h0
  have k1:=h1
  obtain ⟨a1,rfl,rfl,rfl,w1⟩:=open_int Tryz.underlying2 (hval 1 2 v1 rfl rfl) h1
  have k2:=h2
  obtain ⟨a2,rfl,rfl,rfl,w2⟩:=open_int Tryz.underlying2 (hval 2 2 v2 rfl rfl) h2
  refine (spreadStates_walk b0 c0 e0 l0 o0 n0 m0 A0 L0 hk0 a1 w1 a2 w2 W hS0).mono fun e W' ⟨he,hg⟩=>?_
  subst he
  exact ⟨_,rfl,post_of_same (pv:=[]) hW (fun _ _ _=>(trodAll_cons_mk (shut_bool Tryz.underlying4 _) trodAll_mk0)) (fun sp hsp=>(trodAll_cons_mk (stay (by kernel_rfl) (of_decide_eq_true (by kernel_rfl)) k0 hg hlt (fun x hx=>by first | (simp at hx;done) | simp [hx]) hsp) (trodAll_cons_mk (stay (by kernel_rfl) (of_decide_eq_true (by kernel_rfl)) k1 hg hlt (fun x hx=>by first | (simp at hx;done) | simp [hx]) hsp) (trodAll_cons_mk (stay (by kernel_rfl) (of_decide_eq_true (by kernel_rfl)) k2 hg hlt (fun x hx=>by first | (simp at hx;done) | simp [hx]) hsp) trodAll_mk0)))) (fun _ _=>rfl) rfl
    (hg.grown.frame _) hg.grown.2.1 (ok_one (by kernel_rfl) rfl (okWide_bool_mk Tryz.underlying4 _))⟩

theorem spreadStates_over:Rows.spreadStatesRow.holds Tryz.pinned (OpenSpec.ofChange Rows.spreadStatesSpec) :=
  OpenClaim.holds_of_wide 3 Tryz.f3 rfl rfl rfl rfl rfl rfl rfl ⟨rfl,rfl,rfl,rfl,rfl⟩ rfl rfl rfl rfl rfl (by kernel_rfl) Tryz.func3 (by kernel_rfl)
    (of_decide_eq_true (by kernel_rfl)) (by unfold Func.isWrapper;first | (rw [if_pos (by decide +kernel)];kernel_rfl) | (rw [if_neg (by decide +kernel)];exact ⟨rfl,rfl⟩))
    (fun os started H enc _=>spreadStates_lifted os started H enc)

theorem spreadStates_holds:Rows.SpreadStatesSaid :=
  spreadStates_over
end Go.Proofs.YtafkoddgefcpnaaGreat
