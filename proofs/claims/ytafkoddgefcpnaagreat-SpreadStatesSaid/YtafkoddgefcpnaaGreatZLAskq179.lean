/- Ask of package spread. -/
import Derived.Test.YtafkoddgefcpnaaGreatRows
import Derived.Test.YtafkoddgefcpnaaGreatZLAskAq178
namespace Go.Proofs.YtafkoddgefcpnaaGreat
open Go.RowKit
set_option linter.unusedVariables false

theorem cellsP2 {w:World} {p:Nat} {v0 v1 x0 x1:Value} (e0:w.cell? ⟨p,0,none⟩=some x0) (e1:w.cell? ⟨p,1,none⟩=some x1) :
    ((w.setCell ⟨p,0,none⟩ v0).setCell ⟨p,1,none⟩ v1).cell? ⟨p,0,none⟩=some v0∧((w.setCell ⟨p,0,none⟩ v0).setCell ⟨p,1,none⟩ v1).cell? ⟨p,1,none⟩=some v1 :=
  ⟨cell_set (cell_set e0),cell_set (cell_set e1)⟩
theorem set2K14 {w w1:World} {p pa pb:Nat} {x0 x1 x2 x3 x4 x5 x6 y0 y1 y2 y3 y4 y5 y6 v0 v1:Value} (h:Up w w1∧w1.cell? ⟨pa,0,none⟩=some x0∧w1.cell? ⟨pa,1,none⟩=some x1∧w1.cell? ⟨pa,2,none⟩=some x2∧w1.cell? ⟨pa,3,none⟩=some x3∧w1.cell? ⟨pa,4,none⟩=some x4∧w1.cell? ⟨pa,5,none⟩=some x5∧w1.cell? ⟨pa,6,none⟩=some x6∧w1.cell? ⟨pb,0,none⟩=some y0∧w1.cell? ⟨pb,1,none⟩=some y1∧w1.cell? ⟨pb,2,none⟩=some y2∧w1.cell? ⟨pb,3,none⟩=some y3∧w1.cell? ⟨pb,4,none⟩=some y4∧w1.cell? ⟨pb,5,none⟩=some y5∧w1.cell? ⟨pb,6,none⟩=some y6) (hp:w.heap.size≤p) (ha:p ≠ pa) (hb:p ≠ pb):Up w ((w1.setCell ⟨p,0,none⟩ v0).setCell ⟨p,1,none⟩ v1)∧((w1.setCell ⟨p,0,none⟩ v0).setCell ⟨p,1,none⟩ v1).cell? ⟨pa,0,none⟩=some x0∧((w1.setCell ⟨p,0,none⟩ v0).setCell ⟨p,1,none⟩ v1).cell? ⟨pa,1,none⟩=some x1∧((w1.setCell ⟨p,0,none⟩ v0).setCell ⟨p,1,none⟩ v1).cell? ⟨pa,2,none⟩=some x2∧((w1.setCell ⟨p,0,none⟩ v0).setCell ⟨p,1,none⟩ v1).cell? ⟨pa,3,none⟩=some x3∧((w1.setCell ⟨p,0,none⟩ v0).setCell ⟨p,1,none⟩ v1).cell? ⟨pa,4,none⟩=some x4∧((w1.setCell ⟨p,0,none⟩ v0).setCell ⟨p,1,none⟩ v1).cell? ⟨pa,5,none⟩=some x5∧((w1.setCell ⟨p,0,none⟩ v0).setCell ⟨p,1,none⟩ v1).cell? ⟨pa,6,none⟩=some x6∧((w1.setCell ⟨p,0,none⟩ v0).setCell ⟨p,1,none⟩ v1).cell? ⟨pb,0,none⟩=some y0∧((w1.setCell ⟨p,0,none⟩ v0).setCell ⟨p,1,none⟩ v1).cell? ⟨pb,1,none⟩=some y1∧((w1.setCell ⟨p,0,none⟩ v0).setCell ⟨p,1,none⟩ v1).cell? ⟨pb,2,none⟩=some y2∧((w1.setCell ⟨p,0,none⟩ v0).setCell ⟨p,1,none⟩ v1).cell? ⟨pb,3,none⟩=some y3∧((w1.setCell ⟨p,0,none⟩ v0).setCell ⟨p,1,none⟩ v1).cell? ⟨pb,4,none⟩=some y4∧((w1.setCell ⟨p,0,none⟩ v0).setCell ⟨p,1,none⟩ v1).cell? ⟨pb,5,none⟩=some y5∧((w1.setCell ⟨p,0,none⟩ v0).setCell ⟨p,1,none⟩ v1).cell? ⟨pb,6,none⟩=some y6 :=
  ⟨h.1.setP2 hp,farP2 h.2.1 ha,farP2 h.2.2.1 ha,farP2 h.2.2.2.1 ha,farP2 h.2.2.2.2.1 ha,farP2 h.2.2.2.2.2.1 ha,farP2 h.2.2.2.2.2.2.1 ha,farP2 h.2.2.2.2.2.2.2.1 ha,farP2 h.2.2.2.2.2.2.2.2.1 hb,farP2 h.2.2.2.2.2.2.2.2.2.1 hb,farP2 h.2.2.2.2.2.2.2.2.2.2.1 hb,farP2 h.2.2.2.2.2.2.2.2.2.2.2.1 hb,farP2 h.2.2.2.2.2.2.2.2.2.2.2.2.1 hb,farP2 h.2.2.2.2.2.2.2.2.2.2.2.2.2.1 hb,farP2 h.2.2.2.2.2.2.2.2.2.2.2.2.2.2 hb⟩
set_option maxHeartbeats 4000000 in
set_option maxRecDepth 100000 in
theorem ask14_bad (v q c now seq:Int) (n k:Nat) (A:Option Addr) (X:List Mrk) (hn:n≤50000) (hv:stP v q c now seq X=false) (w:World) (hS:SG cM w A n X) :
    Calls Tryz.prog 11 #[.agg #[.int .i64 v,.int .i64 q,.int .i64 c,.int .i64 now,.int .i64 seq,.slice A n k]] w fun e w'=>e=.returned (.tuple #[.agg #[.int .i64 0,.int .i64 0,.int .i64 0,.int .i64 0,.int .i64 0,.int .i64 0],.int .i64 2])∧Up w w':=by
  have KV:=Lib.hid (fun W (h:SG cM W A n X)=>validate14_up v q c now seq n k A X hn W h)
  rw [stPE_no hv] at KV
  have HS:=Lib.hid hS
  clear hS hv
  go_enter Tryz.func11,Tryz.ntmps11
  go_wp2_with (first
    | (go_at_call 13;(with_reducible refine (KV.out _ (HS.out.up (((Up.refl w).alloc _ _).alloc _ _))).mono ?_);rintro e w1 ⟨rfl,hu⟩;have hv:=(((Up.refl w).alloc #[.int .i64 v,.int .i64 q,.int .i64 c,.int .i64 now,.int .i64 seq,.slice A n k] 24).alloc #[.int .i64 0,.int .i64 0,.int .i64 0,.int .i64 0,.int .i64 0,.int .i64 0] 33).trans hu;have HV1:=Lib.hid hv;have HU1:=Lib.hid ((Up.refl w).trans hv);have a_1_0:=hu.keep (w.heap.size) 0 (.int .i64 v) (by simp [go_sem]);have a_1_1:=hu.keep (w.heap.size) 1 (.int .i64 q) (by simp [go_sem]);have a_1_2:=hu.keep (w.heap.size) 2 (.int .i64 c) (by simp [go_sem]);have a_1_3:=hu.keep (w.heap.size) 3 (.int .i64 now) (by simp [go_sem]);have a_1_4:=hu.keep (w.heap.size) 4 (.int .i64 seq) (by simp [go_sem]);have a_1_5:=hu.keep (w.heap.size) 5 (.slice A n k) (by simp [go_sem]);have r_1_0:=hu.keep (w.heap.size+1) 0 (.int .i64 0) (by simp [go_sem]);have r_1_1:=hu.keep (w.heap.size+1) 1 (.int .i64 0) (by simp [go_sem]);have r_1_2:=hu.keep (w.heap.size+1) 2 (.int .i64 0) (by simp [go_sem]);have r_1_3:=hu.keep (w.heap.size+1) 3 (.int .i64 0) (by simp [go_sem]);have r_1_4:=hu.keep (w.heap.size+1) 4 (.int .i64 0) (by simp [go_sem]);have r_1_5:=hu.keep (w.heap.size+1) 5 (.int .i64 0) (by simp [go_sem]);have la1:=World.block_lt_of_cell? _ _ a_1_0;have lr1:=World.block_lt_of_cell? _ _ r_1_0;have z0:=HU1.out.ownGe (g:=w.heap.size+1) (by omega) 0;have z1:=HU1.out.ownGe (g:=w.heap.size+1) (by omega) 1;have z2:=HU1.out.ownGe (g:=w.heap.size+1) (by omega) 2;have z3:=HU1.out.ownGe (g:=w.heap.size+1) (by omega) 3;have z4:=HU1.out.ownGe (g:=w.heap.size+1) (by omega) 4;have z5:=HU1.out.ownGe (g:=w.heap.size+1) (by omega) 5;clear hu hv ))
  refine bodyPost_ret (v:=.tuple #[.agg #[.int .i64 0,.int .i64 0,.int .i64 0,.int .i64 0,.int .i64 0,.int .i64 0],.int .i64 2]) (by simp [results,Tryz.results11,go_sem,r_1_0,r_1_1,r_1_2,r_1_3,r_1_4,r_1_5]) rfl ⟨rfl,?_⟩
  exact HU1.out.setP6 (by omega)

set_option maxHeartbeats 4000000 in
set_option maxRecDepth 100000 in
theorem ask14_good (v q c now seq:Int) (n k:Nat) (A:Option Addr) (X:List Mrk) (hn:n≤50000) (hv:stP v q c now seq X=true) (w:World) (hS:SG cM w A n X) :
    Calls Tryz.prog 11 #[.agg #[.int .i64 v,.int .i64 q,.int .i64 c,.int .i64 now,.int .i64 seq,.slice A n k]] w fun e w'=>e=.returned (akS true (spR (enM now v X).1) (spR (enM now v X).2))∧Up w w':=by
  have KV:=Lib.hid (fun W (h:SG cM W A n X)=>validate14_up v q c now seq n k A X hn W h)
  rw [stPE_yes hv] at KV
  have HS:=Lib.hid hS
  obtain ⟨hmy,h1l,hbd⟩:=stP_my hv
  have KT:=Lib.hid (toSmooth_up v q c now seq n k A)
  have KE:=Lib.hid (fun W (hu:Up w W)=>mends_up 4 v q c now seq n k A X hn (fun e=>h1l (by rw [hS.1];exact e)) (fun j hj=>hbd j (by rw [hS.1];exact hj)) W (hS.up hu))
  obtain ⟨q1,q2⟩:=enM_ok14 (P:=fun m=>m.n=0∨myM m=true) (now:=now) (v:=v) (X:=X) (Or.inl rfl) (fun j hj=>Or.inr (hmy j hj))
  clear hS hv hmy h1l hbd
  generalize (enM now v X).1=Ma at *
  generalize (enM now v X).2=Mb at *
  have K1:=Lib.hid (spreadOf_up Ma q1)
  have K2:=Lib.hid (spreadOf_up Mb q2)
  generalize spR Ma=za at *
  generalize spR Mb=zb at *
  obtain ⟨x0,x1⟩:=za
  obtain ⟨y0,y1⟩:=zb
  obtain ⟨sq1,t1,nn1,s1,qq1,lo1,hi1⟩:=Ma
  obtain ⟨sq2,t2,nn2,s2,qq2,lo2,hi2⟩:=Mb
  simp only [mg] at KE K1 K2
  clear q1 q2
  show Calls _ _ _ _ (fun e w'=>e=.returned (.tuple #[.agg #[.int .i64 x0,.int .i64 x1,.int .i64 x0,.int .i64 x1,.int .i64 y0,.int .i64 y1],.int .i64 0])∧Up w w')
  go_enter Tryz.func11,Tryz.ntmps11
  go_upto_region 5 with (first
    | (go_at_call 13;(with_reducible refine (KV.out _ (HS.out.up (((Up.refl w).alloc _ _).alloc _ _))).mono ?_);rintro e w1 ⟨rfl,hu⟩;have hv:=(((Up.refl w).alloc #[.int .i64 v,.int .i64 q,.int .i64 c,.int .i64 now,.int .i64 seq,.slice A n k] 24).alloc #[.int .i64 0,.int .i64 0,.int .i64 0,.int .i64 0,.int .i64 0,.int .i64 0] 33).trans hu;have HV1:=Lib.hid hv;have HU1:=Lib.hid ((Up.refl w).trans hv);have a_1_0:=hu.keep (w.heap.size) 0 (.int .i64 v) (by simp [go_sem]);have a_1_1:=hu.keep (w.heap.size) 1 (.int .i64 q) (by simp [go_sem]);have a_1_2:=hu.keep (w.heap.size) 2 (.int .i64 c) (by simp [go_sem]);have a_1_3:=hu.keep (w.heap.size) 3 (.int .i64 now) (by simp [go_sem]);have a_1_4:=hu.keep (w.heap.size) 4 (.int .i64 seq) (by simp [go_sem]);have a_1_5:=hu.keep (w.heap.size) 5 (.slice A n k) (by simp [go_sem]);have r_1_0:=hu.keep (w.heap.size+1) 0 (.int .i64 0) (by simp [go_sem]);have r_1_1:=hu.keep (w.heap.size+1) 1 (.int .i64 0) (by simp [go_sem]);have r_1_2:=hu.keep (w.heap.size+1) 2 (.int .i64 0) (by simp [go_sem]);have r_1_3:=hu.keep (w.heap.size+1) 3 (.int .i64 0) (by simp [go_sem]);have r_1_4:=hu.keep (w.heap.size+1) 4 (.int .i64 0) (by simp [go_sem]);have r_1_5:=hu.keep (w.heap.size+1) 5 (.int .i64 0) (by simp [go_sem]);have la1:=World.block_lt_of_cell? _ _ a_1_0;have lr1:=World.block_lt_of_cell? _ _ r_1_0;clear hu hv )
    | (go_at_call 27;(with_reducible refine (KT.out _).mono ?_);rintro e w2 ⟨rfl,hu⟩;have hv:=(Up.refl w1).trans hu;have HV2:=Lib.hid hv;have HU2:=Lib.hid (HU1.out.trans hv);have a_2_0:=hv.keep _ _ _ a_1_0;have a_2_1:=hv.keep _ _ _ a_1_1;have a_2_2:=hv.keep _ _ _ a_1_2;have a_2_3:=hv.keep _ _ _ a_1_3;have a_2_4:=hv.keep _ _ _ a_1_4;have a_2_5:=hv.keep _ _ _ a_1_5;have r_2_0:=hv.keep _ _ _ r_1_0;have r_2_1:=hv.keep _ _ _ r_1_1;have r_2_2:=hv.keep _ _ _ r_1_2;have r_2_3:=hv.keep _ _ _ r_1_3;have r_2_4:=hv.keep _ _ _ r_1_4;have r_2_5:=hv.keep _ _ _ r_1_5;have la2:=World.block_lt_of_cell? _ _ a_2_0;have lr2:=World.block_lt_of_cell? _ _ r_2_0;clear hu hv la1 a_1_0 a_1_1 a_1_2 a_1_3 a_1_4 a_1_5 lr1 r_1_0 r_1_1 r_1_2 r_1_3 r_1_4 r_1_5)
    | (go_at_call 36;(with_reducible refine (KE.out _ HU2.out).mono ?_);rintro e w3 ⟨rfl,hu⟩;have hv:=(Up.refl w2).trans hu;have HV3:=Lib.hid hv;have HU3:=Lib.hid (HU2.out.trans hv);have a_3_0:=hv.keep _ _ _ a_2_0;have a_3_1:=hv.keep _ _ _ a_2_1;have a_3_2:=hv.keep _ _ _ a_2_2;have a_3_3:=hv.keep _ _ _ a_2_3;have a_3_4:=hv.keep _ _ _ a_2_4;have a_3_5:=hv.keep _ _ _ a_2_5;have r_3_0:=hv.keep _ _ _ r_2_0;have r_3_1:=hv.keep _ _ _ r_2_1;have r_3_2:=hv.keep _ _ _ r_2_2;have r_3_3:=hv.keep _ _ _ r_2_3;have r_3_4:=hv.keep _ _ _ r_2_4;have r_3_5:=hv.keep _ _ _ r_2_5;have la3:=World.block_lt_of_cell? _ _ a_3_0;have lr3:=World.block_lt_of_cell? _ _ r_3_0;clear hu hv la2 a_2_0 a_2_1 a_2_2 a_2_3 a_2_4 a_2_5 lr2 r_2_0 r_2_1 r_2_2 r_2_3 r_2_4 r_2_5))
  refine (show ∀ W5:World,W5=_→Code.wp _ _ _ _ W5 from fun W5 hW5=>?_) _ rfl
  have hv:Up w3 W5:=by rw [hW5];exact ((Up.refl _).alloc _ _).alloc _ _
  have hl3:w.heap.size+1<w3.heap.size:=World.block_lt_of_cell? _ _ r_3_0
  have m0:W5.cell? ⟨w3.heap.size,0,none⟩=some (.int .i64 sq1):=by rw [hW5];simp [go_sem]
  have m1:W5.cell? ⟨w3.heap.size,1,none⟩=some (.int .i64 t1):=by rw [hW5];simp [go_sem]
  have m2:W5.cell? ⟨w3.heap.size,2,none⟩=some (.int .i64 nn1):=by rw [hW5];simp [go_sem]
  have m3:W5.cell? ⟨w3.heap.size,3,none⟩=some (.int .i64 s1):=by rw [hW5];simp [go_sem]
  have m4:W5.cell? ⟨w3.heap.size,4,none⟩=some (.int .i64 qq1):=by rw [hW5];simp [go_sem]
  have m5:W5.cell? ⟨w3.heap.size,5,none⟩=some (.int .i64 lo1):=by rw [hW5];simp [go_sem]
  have m6:W5.cell? ⟨w3.heap.size,6,none⟩=some (.int .i64 hi1):=by rw [hW5];simp [go_sem]
  have e0:W5.cell? ⟨w3.heap.size+1,0,none⟩=some (.int .i64 sq2):=by rw [hW5];simp [go_sem]
  have e1:W5.cell? ⟨w3.heap.size+1,1,none⟩=some (.int .i64 t2):=by rw [hW5];simp [go_sem]
  have e2:W5.cell? ⟨w3.heap.size+1,2,none⟩=some (.int .i64 nn2):=by rw [hW5];simp [go_sem]
  have e3:W5.cell? ⟨w3.heap.size+1,3,none⟩=some (.int .i64 s2):=by rw [hW5];simp [go_sem]
  have e4:W5.cell? ⟨w3.heap.size+1,4,none⟩=some (.int .i64 qq2):=by rw [hW5];simp [go_sem]
  have e5:W5.cell? ⟨w3.heap.size+1,5,none⟩=some (.int .i64 lo2):=by rw [hW5];simp [go_sem]
  have e6:W5.cell? ⟨w3.heap.size+1,6,none⟩=some (.int .i64 hi2):=by rw [hW5];simp [go_sem]
  have r0:=hv.keep _ _ _ r_3_0
  have r1:=hv.keep _ _ _ r_3_1
  have r2:=hv.keep _ _ _ r_3_2
  have r3:=hv.keep _ _ _ r_3_3
  have r4:=hv.keep _ _ _ r_3_4
  have r5:=hv.keep _ _ _ r_3_5
  have HW:=Lib.hid (HU3.out.trans hv)
  clear hv hW5
  obtain ⟨p1,hp1⟩:∃ p,w3.heap.size=p:=⟨_,rfl⟩
  obtain ⟨p2,hp2⟩:∃ p,w3.heap.size+1=p:=⟨_,rfl⟩
  rw [hp1] at m0 m1 m2 m3 m4 m5 m6 hl3
  rw [hp2] at e0 e1 e2 e3 e4 e5 e6
  have hp2l:w.heap.size+1<p2:=by omega
  (try rw [hp2])
  (try rw [hp1])
  have HSS:Hid (Up w W5∧W5.cell? ⟨p1,0,none⟩=some (.int .i64 sq1)∧W5.cell? ⟨p1,1,none⟩=some (.int .i64 t1)∧W5.cell? ⟨p1,2,none⟩=some (.int .i64 nn1)∧W5.cell? ⟨p1,3,none⟩=some (.int .i64 s1)∧W5.cell? ⟨p1,4,none⟩=some (.int .i64 qq1)∧W5.cell? ⟨p1,5,none⟩=some (.int .i64 lo1)∧W5.cell? ⟨p1,6,none⟩=some (.int .i64 hi1)∧W5.cell? ⟨p2,0,none⟩=some (.int .i64 sq2)∧W5.cell? ⟨p2,1,none⟩=some (.int .i64 t2)∧W5.cell? ⟨p2,2,none⟩=some (.int .i64 nn2)∧W5.cell? ⟨p2,3,none⟩=some (.int .i64 s2)∧W5.cell? ⟨p2,4,none⟩=some (.int .i64 qq2)∧W5.cell? ⟨p2,5,none⟩=some (.int .i64 lo2)∧W5.cell? ⟨p2,6,none⟩=some (.int .i64 hi2)):=Lib.hid ⟨HW.out,m0,m1,m2,m3,m4,m5,m6,e0,e1,e2,e3,e4,e5,e6⟩
  clear hp1 hp2 m0 m1 m2 m3 m4 m5 m6 e0 e1 e2 e3 e4 e5 e6
  go_cut [7,8] (fun s7 s8 wx=>∃ b7 b8:Nat,s7=.pointer (some ⟨b7,0,none⟩)∧s8=.pointer (some ⟨b8,0,none⟩)∧Hid (Up w wx∧wx.cell? ⟨b7,0,none⟩=some (.int .i64 x0)∧wx.cell? ⟨b7,1,none⟩=some (.int .i64 x1)∧wx.cell? ⟨b8,0,none⟩=some (.int .i64 y0)∧wx.cell? ⟨b8,1,none⟩=some (.int .i64 y1)∧wx.cell? ⟨w.heap.size+1,0,none⟩=some (.int .i64 0)∧wx.cell? ⟨w.heap.size+1,1,none⟩=some (.int .i64 0)∧wx.cell? ⟨w.heap.size+1,2,none⟩=some (.int .i64 0)∧wx.cell? ⟨w.heap.size+1,3,none⟩=some (.int .i64 0)∧wx.cell? ⟨w.heap.size+1,4,none⟩=some (.int .i64 0)∧wx.cell? ⟨w.heap.size+1,5,none⟩=some (.int .i64 0)))
  case first =>
    go_wp2_with fail
    refine wp_region_held_drew (S:=fun w'=>Up w w'∧w'.cell? ⟨p1,0,none⟩=some (.int .i64 sq1)∧w'.cell? ⟨p1,1,none⟩=some (.int .i64 t1)∧w'.cell? ⟨p1,2,none⟩=some (.int .i64 nn1)∧w'.cell? ⟨p1,3,none⟩=some (.int .i64 s1)∧w'.cell? ⟨p1,4,none⟩=some (.int .i64 qq1)∧w'.cell? ⟨p1,5,none⟩=some (.int .i64 lo1)∧w'.cell? ⟨p1,6,none⟩=some (.int .i64 hi1)∧w'.cell? ⟨p2,0,none⟩=some (.int .i64 sq2)∧w'.cell? ⟨p2,1,none⟩=some (.int .i64 t2)∧w'.cell? ⟨p2,2,none⟩=some (.int .i64 nn2)∧w'.cell? ⟨p2,3,none⟩=some (.int .i64 s2)∧w'.cell? ⟨p2,4,none⟩=some (.int .i64 qq2)∧w'.cell? ⟨p2,5,none⟩=some (.int .i64 lo2)∧w'.cell? ⟨p2,6,none⟩=some (.int .i64 hi2)) (by kernel_rfl) ?hB1 (fun hHeld=>?_)
    case hB1=>(with_reducible exact keepK14 (Lib.hid (Up.refl _).drew) HSS.out)
    obtain ⟨u0,hu0⟩:∃ z,z=W5.drew:=⟨_,rfl⟩
    rw [← hu0] at hHeld ⊢
    have hv:Up W5 u0:=by rw [hu0];exact (Up.refl _).drew
    have r0:=hv.keep _ _ _ r0
    have r1:=hv.keep _ _ _ r1
    have r2:=hv.keep _ _ _ r2
    have r3:=hv.keep _ _ _ r3
    have r4:=hv.keep _ _ _ r4
    have r5:=hv.keep _ _ _ r5
    have HW:=Lib.hid (HW.out.trans hv)
    clear hv hu0
    refine takeT 0 rfl (by assumption) ?_
    (try simp only [Act.put,stpA,stpB,stpC])
    refine takeT 2 rfl (by assumption) ?_
    (try simp only [Act.put,stpA,stpB,stpC])
    have HP1:p1<u0.heap.size:=World.block_lt_of_cell? _ _ hHeld.2.1
    have HP2:p2<u0.heap.size:=World.block_lt_of_cell? _ _ hHeld.2.2.2.2.2.2.2.2.1
    refine wpAnyH_ready (rs:=[1,4,5]) (by kernel_rfl) (by simp) ?_
    refine AllReadyH.cons (o:=⟨_,_,_,_,_,_⟩) rfl (fun K hK=>?_) (AllReadyH.cons (o:=⟨_,_,_,_,_,_⟩) rfl (fun K hK=>?_) (AllReadyH.cons (o:=⟨_,_,_,_,_,_⟩) rfl (fun K hK=>?_) (AllReadyH.nil)))
    · go_simp
      (go_at_call 37;(with_reducible refine (K1.out _).mono ?_);rintro e uc0_0 ⟨rfl,hu⟩;have HW:=Lib.hid (HW.out.trans hu);have HX:=Lib.hid (keepK14 (Lib.hid hu) hHeld);have r0:=hu.keep _ _ _ r0;have r1:=hu.keep _ _ _ r1;have r2:=hu.keep _ _ _ r2;have r3:=hu.keep _ _ _ r3;have r4:=hu.keep _ _ _ r4;have r5:=hu.keep _ _ _ r5;have HP1:p1<uc0_0.heap.size:=Nat.lt_of_lt_of_le HP1 hu.size;have HP2:p2<uc0_0.heap.size:=Nat.lt_of_lt_of_le HP2 hu.size;clear hu)
      (try go_wp2_with fail)
      refine hK.out _ _ ?hB4 (fun hHeld=>?_)
      case hB4=>(with_reducible exact HX.out)
      clear hK K
      (try simp only [Act.put,stpA,stpB,stpC])
      refine wpAnyH_ready (rs:=[3,4,5]) (by kernel_rfl) (by simp) ?_
      refine AllReadyH.cons (o:=⟨_,_,_,_,_,_⟩) rfl (fun K hK=>?_) (AllReadyH.cons (o:=⟨_,_,_,_,_,_⟩) rfl (fun K hK=>?_) (AllReadyH.cons (o:=⟨_,_,_,_,_,_⟩) rfl (fun K hK=>?_) (AllReadyH.nil)))
      · go_simp
        (go_at_call 37;(with_reducible refine (K2.out _).mono ?_);rintro e uc1_1 ⟨rfl,hu⟩;have HW:=Lib.hid (HW.out.trans hu);have HX:=Lib.hid (keepK14 (Lib.hid hu) hHeld);have r0:=hu.keep _ _ _ r0;have r1:=hu.keep _ _ _ r1;have r2:=hu.keep _ _ _ r2;have r3:=hu.keep _ _ _ r3;have r4:=hu.keep _ _ _ r4;have r5:=hu.keep _ _ _ r5;have HP1:p1<uc1_1.heap.size:=Nat.lt_of_lt_of_le HP1 hu.size;have HP2:p2<uc1_1.heap.size:=Nat.lt_of_lt_of_le HP2 hu.size;clear hu)
        (try go_wp2_with fail)
        refine hK.out _ _ ?hB5 (fun hHeld=>?_)
        case hB5=>(with_reducible exact HX.out)
        clear hK K
        (try simp only [Act.put,stpA,stpB,stpC])
        refine wpAnyH_ready (rs:=[4,5]) (by kernel_rfl) (by simp) ?_
        refine AllReadyH.cons (o:=⟨_,_,_,_,_,_⟩) rfl (fun K hK=>?_) (AllReadyH.cons (o:=⟨_,_,_,_,_,_⟩) rfl (fun K hK=>?_) (AllReadyH.nil))
        · go_simp
          refine hK.out _ _ ?hB6 (fun hHeld=>?_)
          case hB6=>(with_reducible exact keepK14 (Lib.hid ((Up.refl _).alloc _ _)) hHeld)
          clear hK K
          (try simp only [Act.put,stpA,stpB,stpC])
          obtain ⟨ua3,hua3⟩:∃ z,z=uc1_1.alloc (.cells #[.int .i64 0,.int .i64 0] 31):=⟨_,rfl⟩
          rw [← hua3] at hHeld ⊢
          have hv:Up uc1_1 ua3:=by rw [hua3];exact (Up.refl _).alloc _ _
          have g70:ua3.cell? ⟨uc1_1.heap.size,0,none⟩=some (.int .i64 0):=by rw [hua3];simp [go_sem]
          have g71:ua3.cell? ⟨uc1_1.heap.size,1,none⟩=some (.int .i64 0):=by rw [hua3];simp [go_sem]
          have hr_:=World.block_lt_of_cell? _ _ r0
          skip
          have r0:=hv.keep _ _ _ r0
          have r1:=hv.keep _ _ _ r1
          have r2:=hv.keep _ _ _ r2
          have r3:=hv.keep _ _ _ r3
          have r4:=hv.keep _ _ _ r4
          have r5:=hv.keep _ _ _ r5
          have HW:=Lib.hid (HW.out.trans hv)
          have bk3l:p1<uc1_1.heap.size∧p2<uc1_1.heap.size∧w.heap.size+1<uc1_1.heap.size:=⟨HP1,HP2,hr_⟩
          have HP1_:p1<ua3.heap.size:=Nat.lt_of_lt_of_le HP1 hv.size
          have HP2_:p2<ua3.heap.size:=Nat.lt_of_lt_of_le HP2 hv.size
          clear HP1 HP2 hv hua3 hr_
          have HP1:=HP1_
          have HP2:=HP2_
          clear HP1_ HP2_
          have HBg7:uc1_1.heap.size<ua3.heap.size:=World.block_lt_of_cell? _ _ g70
          generalize uc1_1.heap.size=bk3 at *
          refine wpAnyH_ready (rs:=[5]) (by kernel_rfl) (by simp) ?_
          refine AllReadyH.cons (o:=⟨_,_,_,_,_,_⟩) rfl (fun K hK=>?_) (AllReadyH.nil)
          go_simp
          refine hK.out _ _ ?hB7 (fun hHeld=>?_)
          case hB7=>(with_reducible exact keepK14 (Lib.hid ((Up.refl _).alloc _ _)) hHeld)
          clear hK K
          (try simp only [Act.put,stpA,stpB,stpC])
          obtain ⟨ua4,hua4⟩:∃ z,z=ua3.alloc (.cells #[.int .i64 0,.int .i64 0] 31):=⟨_,rfl⟩
          rw [← hua4] at hHeld ⊢
          have hv:Up ua3 ua4:=by rw [hua4];exact (Up.refl _).alloc _ _
          have g80:ua4.cell? ⟨ua3.heap.size,0,none⟩=some (.int .i64 0):=by rw [hua4];simp [go_sem]
          have g81:ua4.cell? ⟨ua3.heap.size,1,none⟩=some (.int .i64 0):=by rw [hua4];simp [go_sem]
          have hr_:=World.block_lt_of_cell? _ _ r0
          skip
          have r0:=hv.keep _ _ _ r0
          have r1:=hv.keep _ _ _ r1
          have r2:=hv.keep _ _ _ r2
          have r3:=hv.keep _ _ _ r3
          have r4:=hv.keep _ _ _ r4
          have r5:=hv.keep _ _ _ r5
          have g70:=hv.keep _ _ _ g70
          have g71:=hv.keep _ _ _ g71
          have HW:=Lib.hid (HW.out.trans hv)
          have bk4l:p1<ua3.heap.size∧p2<ua3.heap.size∧w.heap.size+1<ua3.heap.size:=⟨HP1,HP2,hr_⟩
          have HP1_:p1<ua4.heap.size:=Nat.lt_of_lt_of_le HP1 hv.size
          have HP2_:p2<ua4.heap.size:=Nat.lt_of_lt_of_le HP2 hv.size
          clear HP1 HP2 hv hua4 hr_
          have HP1:=HP1_
          have HP2:=HP2_
          clear HP1_ HP2_
          have bk4n:bk3<ua3.heap.size:=by assumption
          clear HBg7
          have HBg8:ua3.heap.size<ua4.heap.size:=World.block_lt_of_cell? _ _ g80
          have HBg7:bk3<ua4.heap.size:=World.block_lt_of_cell? _ _ g70
          generalize ua3.heap.size=bk4 at *
          have z0_:=HW.out.ownGe (g:=bk3) (by omega) 0
          have z1_:=HW.out.ownGe (g:=bk3) (by omega) 1
          refine wpAnyH_ready (rs:=[6]) (by kernel_rfl) (by simp) ?_
          refine AllReadyH.cons (o:=⟨_,_,_,_,_,_⟩) rfl (fun K hK=>?_) (AllReadyH.nil)
          go_simp
          refine hK.out _ _ ?hB8 (fun hHeld=>?_)
          case hB8=>(with_reducible exact set2K14 hHeld (by omega) (by omega) (by omega))
          clear hK K
          (try simp only [Act.put,stpA,stpB,stpC])
          obtain ⟨va5,hva5⟩:∃ z,z=(ua4.setCell ⟨bk3,0,none⟩ (.int .i64 x0)).setCell ⟨bk3,1,none⟩ (.int .i64 x1):=⟨_,rfl⟩
          rw [← hva5] at hHeld ⊢
          obtain ⟨t0_,t1_⟩:=cellsP2 (w:=ua4) (p:=bk3) (v0:=.int .i64 x0) (v1:=.int .i64 x1) g70 g71
          rw [← hva5] at t0_ t1_
          have r0:va5.cell? ⟨w.heap.size+1,0,none⟩=some (.int .i64 0):=by rw [hva5];exact farP2 r0 (by omega)
          have r1:va5.cell? ⟨w.heap.size+1,1,none⟩=some (.int .i64 0):=by rw [hva5];exact farP2 r1 (by omega)
          have r2:va5.cell? ⟨w.heap.size+1,2,none⟩=some (.int .i64 0):=by rw [hva5];exact farP2 r2 (by omega)
          have r3:va5.cell? ⟨w.heap.size+1,3,none⟩=some (.int .i64 0):=by rw [hva5];exact farP2 r3 (by omega)
          have r4:va5.cell? ⟨w.heap.size+1,4,none⟩=some (.int .i64 0):=by rw [hva5];exact farP2 r4 (by omega)
          have r5:va5.cell? ⟨w.heap.size+1,5,none⟩=some (.int .i64 0):=by rw [hva5];exact farP2 r5 (by omega)
          have g80:va5.cell? ⟨bk4,0,none⟩=some (.int .i64 0):=by rw [hva5];exact farP2 g80 (by omega)
          have g81:va5.cell? ⟨bk4,1,none⟩=some (.int .i64 0):=by rw [hva5];exact farP2 g81 (by omega)
          have HW:=Lib.hid (show Up w va5 by rw [hva5];exact HW.out.setP2 (by omega))
          clear hva5 z0_ z1_ g70 g71
          have g70:=t0_
          have g71:=t1_
          clear t0_ t1_
          have z0_:=HW.out.ownGe (g:=bk4) (by omega) 0
          have z1_:=HW.out.ownGe (g:=bk4) (by omega) 1
          refine wpAnyH_ready (rs:=[7]) (by kernel_rfl) (by simp) ?_
          refine AllReadyH.cons (o:=⟨_,_,_,_,_,_⟩) rfl (fun K hK=>?_) (AllReadyH.nil)
          go_simp
          refine hK.out _ _ ?hB9 (fun hHeld=>?_)
          case hB9=>(with_reducible exact set2K14 hHeld (by omega) (by omega) (by omega))
          clear hK K
          (try simp only [Act.put,stpA,stpB,stpC])
          obtain ⟨vb5,hvb5⟩:∃ z,z=(va5.setCell ⟨bk4,0,none⟩ (.int .i64 y0)).setCell ⟨bk4,1,none⟩ (.int .i64 y1):=⟨_,rfl⟩
          rw [← hvb5] at hHeld ⊢
          obtain ⟨t0_,t1_⟩:=cellsP2 (w:=va5) (p:=bk4) (v0:=.int .i64 y0) (v1:=.int .i64 y1) g80 g81
          rw [← hvb5] at t0_ t1_
          have r0:vb5.cell? ⟨w.heap.size+1,0,none⟩=some (.int .i64 0):=by rw [hvb5];exact farP2 r0 (by omega)
          have r1:vb5.cell? ⟨w.heap.size+1,1,none⟩=some (.int .i64 0):=by rw [hvb5];exact farP2 r1 (by omega)
          have r2:vb5.cell? ⟨w.heap.size+1,2,none⟩=some (.int .i64 0):=by rw [hvb5];exact farP2 r2 (by omega)
          have r3:vb5.cell? ⟨w.heap.size+1,3,none⟩=some (.int .i64 0):=by rw [hvb5];exact farP2 r3 (by omega)
          have r4:vb5.cell? ⟨w.heap.size+1,4,none⟩=some (.int .i64 0):=by rw [hvb5];exact farP2 r4 (by omega)
          have r5:vb5.cell? ⟨w.heap.size+1,5,none⟩=some (.int .i64 0):=by rw [hvb5];exact farP2 r5 (by omega)
          have g70:vb5.cell? ⟨bk3,0,none⟩=some (.int .i64 x0):=by rw [hvb5];exact farP2 g70 (by omega)
          have g71:vb5.cell? ⟨bk3,1,none⟩=some (.int .i64 x1):=by rw [hvb5];exact farP2 g71 (by omega)
          have HW:=Lib.hid (show Up w vb5 by rw [hvb5];exact HW.out.setP2 (by omega))
          clear hvb5 z0_ z1_ g80 g81
          have g80:=t0_
          have g81:=t1_
          clear t0_ t1_
          refine wpAnyH_done (by kernel_rfl) ?_ _
          clear hHeld
          go_wp2_with fail
          go_meet
          exact ⟨bk3,bk4,rfl,rfl,Lib.hid ⟨HW.out,g70,g71,g80,g81,r0,r1,r2,r3,r4,r5⟩⟩
        · go_simp
          refine hK.out _ _ ?hB10 (fun hHeld=>?_)
          case hB10=>(with_reducible exact keepK14 (Lib.hid ((Up.refl _).alloc _ _)) hHeld)
          clear hK K
          (try simp only [Act.put,stpA,stpB,stpC])
          obtain ⟨ua6,hua6⟩:∃ z,z=uc1_1.alloc (.cells #[.int .i64 0,.int .i64 0] 31):=⟨_,rfl⟩
          rw [← hua6] at hHeld ⊢
          have hv:Up uc1_1 ua6:=by rw [hua6];exact (Up.refl _).alloc _ _
          have g80:ua6.cell? ⟨uc1_1.heap.size,0,none⟩=some (.int .i64 0):=by rw [hua6];simp [go_sem]
          have g81:ua6.cell? ⟨uc1_1.heap.size,1,none⟩=some (.int .i64 0):=by rw [hua6];simp [go_sem]
          have hr_:=World.block_lt_of_cell? _ _ r0
          skip
          have r0:=hv.keep _ _ _ r0
          have r1:=hv.keep _ _ _ r1
          have r2:=hv.keep _ _ _ r2
          have r3:=hv.keep _ _ _ r3
          have r4:=hv.keep _ _ _ r4
          have r5:=hv.keep _ _ _ r5
          have HW:=Lib.hid (HW.out.trans hv)
          have bk6l:p1<uc1_1.heap.size∧p2<uc1_1.heap.size∧w.heap.size+1<uc1_1.heap.size:=⟨HP1,HP2,hr_⟩
          have HP1_:p1<ua6.heap.size:=Nat.lt_of_lt_of_le HP1 hv.size
          have HP2_:p2<ua6.heap.size:=Nat.lt_of_lt_of_le HP2 hv.size
          clear HP1 HP2 hv hua6 hr_
          have HP1:=HP1_
          have HP2:=HP2_
          clear HP1_ HP2_
          have HBg8:uc1_1.heap.size<ua6.heap.size:=World.block_lt_of_cell? _ _ g80
          generalize uc1_1.heap.size=bk6 at *
          refine wpAnyH_ready (rs:=[4]) (by kernel_rfl) (by simp) ?_
          refine AllReadyH.cons (o:=⟨_,_,_,_,_,_⟩) rfl (fun K hK=>?_) (AllReadyH.nil)
          go_simp
          refine hK.out _ _ ?hB11 (fun hHeld=>?_)
          case hB11=>(with_reducible exact keepK14 (Lib.hid ((Up.refl _).alloc _ _)) hHeld)
          clear hK K
          (try simp only [Act.put,stpA,stpB,stpC])
          obtain ⟨ua7,hua7⟩:∃ z,z=ua6.alloc (.cells #[.int .i64 0,.int .i64 0] 31):=⟨_,rfl⟩
          rw [← hua7] at hHeld ⊢
          have hv:Up ua6 ua7:=by rw [hua7];exact (Up.refl _).alloc _ _
          have g70:ua7.cell? ⟨ua6.heap.size,0,none⟩=some (.int .i64 0):=by rw [hua7];simp [go_sem]
          have g71:ua7.cell? ⟨ua6.heap.size,1,none⟩=some (.int .i64 0):=by rw [hua7];simp [go_sem]
          have hr_:=World.block_lt_of_cell? _ _ r0
          skip
          have r0:=hv.keep _ _ _ r0
          have r1:=hv.keep _ _ _ r1
          have r2:=hv.keep _ _ _ r2
          have r3:=hv.keep _ _ _ r3
          have r4:=hv.keep _ _ _ r4
          have r5:=hv.keep _ _ _ r5
          have g80:=hv.keep _ _ _ g80
          have g81:=hv.keep _ _ _ g81
          have HW:=Lib.hid (HW.out.trans hv)
          have bk7l:p1<ua6.heap.size∧p2<ua6.heap.size∧w.heap.size+1<ua6.heap.size:=⟨HP1,HP2,hr_⟩
          have HP1_:p1<ua7.heap.size:=Nat.lt_of_lt_of_le HP1 hv.size
          have HP2_:p2<ua7.heap.size:=Nat.lt_of_lt_of_le HP2 hv.size
          clear HP1 HP2 hv hua7 hr_
          have HP1:=HP1_
          have HP2:=HP2_
          clear HP1_ HP2_
          have bk7n:bk6<ua6.heap.size:=by assumption
          clear HBg8
          have HBg7:ua6.heap.size<ua7.heap.size:=World.block_lt_of_cell? _ _ g70
          have HBg8:bk6<ua7.heap.size:=World.block_lt_of_cell? _ _ g80
          generalize ua6.heap.size=bk7 at *
          have z0_:=HW.out.ownGe (g:=bk7) (by omega) 0
          have z1_:=HW.out.ownGe (g:=bk7) (by omega) 1
          refine wpAnyH_ready (rs:=[6]) (by kernel_rfl) (by simp) ?_
          refine AllReadyH.cons (o:=⟨_,_,_,_,_,_⟩) rfl (fun K hK=>?_) (AllReadyH.nil)
          go_simp
          refine hK.out _ _ ?hB12 (fun hHeld=>?_)
          case hB12=>(with_reducible exact set2K14 hHeld (by omega) (by omega) (by omega))
          clear hK K
          (try simp only [Act.put,stpA,stpB,stpC])
          obtain ⟨va8,hva8⟩:∃ z,z=(ua7.setCell ⟨bk7,0,none⟩ (.int .i64 x0)).setCell ⟨bk7,1,none⟩ (.int .i64 x1):=⟨_,rfl⟩
          rw [← hva8] at hHeld ⊢
          obtain ⟨t0_,t1_⟩:=cellsP2 (w:=ua7) (p:=bk7) (v0:=.int .i64 x0) (v1:=.int .i64 x1) g70 g71
          rw [← hva8] at t0_ t1_
          have r0:va8.cell? ⟨w.heap.size+1,0,none⟩=some (.int .i64 0):=by rw [hva8];exact farP2 r0 (by omega)
          have r1:va8.cell? ⟨w.heap.size+1,1,none⟩=some (.int .i64 0):=by rw [hva8];exact farP2 r1 (by omega)
          have r2:va8.cell? ⟨w.heap.size+1,2,none⟩=some (.int .i64 0):=by rw [hva8];exact farP2 r2 (by omega)
          have r3:va8.cell? ⟨w.heap.size+1,3,none⟩=some (.int .i64 0):=by rw [hva8];exact farP2 r3 (by omega)
          have r4:va8.cell? ⟨w.heap.size+1,4,none⟩=some (.int .i64 0):=by rw [hva8];exact farP2 r4 (by omega)
          have r5:va8.cell? ⟨w.heap.size+1,5,none⟩=some (.int .i64 0):=by rw [hva8];exact farP2 r5 (by omega)
          have g80:va8.cell? ⟨bk6,0,none⟩=some (.int .i64 0):=by rw [hva8];exact farP2 g80 (by omega)
          have g81:va8.cell? ⟨bk6,1,none⟩=some (.int .i64 0):=by rw [hva8];exact farP2 g81 (by omega)
          have HW:=Lib.hid (show Up w va8 by rw [hva8];exact HW.out.setP2 (by omega))
          clear hva8 z0_ z1_ g70 g71
          have g70:=t0_
          have g71:=t1_
          clear t0_ t1_
          have z0_:=HW.out.ownGe (g:=bk6) (by omega) 0
          have z1_:=HW.out.ownGe (g:=bk6) (by omega) 1
          refine wpAnyH_ready (rs:=[7]) (by kernel_rfl) (by simp) ?_
          refine AllReadyH.cons (o:=⟨_,_,_,_,_,_⟩) rfl (fun K hK=>?_) (AllReadyH.nil)
          go_simp
          refine hK.out _ _ ?hB13 (fun hHeld=>?_)
          case hB13=>(with_reducible exact set2K14 hHeld (by omega) (by omega) (by omega))
          clear hK K
          (try simp only [Act.put,stpA,stpB,stpC])
          obtain ⟨vb8,hvb8⟩:∃ z,z=(va8.setCell ⟨bk6,0,none⟩ (.int .i64 y0)).setCell ⟨bk6,1,none⟩ (.int .i64 y1):=⟨_,rfl⟩
          rw [← hvb8] at hHeld ⊢
          obtain ⟨t0_,t1_⟩:=cellsP2 (w:=va8) (p:=bk6) (v0:=.int .i64 y0) (v1:=.int .i64 y1) g80 g81
          rw [← hvb8] at t0_ t1_
          have r0:vb8.cell? ⟨w.heap.size+1,0,none⟩=some (.int .i64 0):=by rw [hvb8];exact farP2 r0 (by omega)
          have r1:vb8.cell? ⟨w.heap.size+1,1,none⟩=some (.int .i64 0):=by rw [hvb8];exact farP2 r1 (by omega)
          have r2:vb8.cell? ⟨w.heap.size+1,2,none⟩=some (.int .i64 0):=by rw [hvb8];exact farP2 r2 (by omega)
          have r3:vb8.cell? ⟨w.heap.size+1,3,none⟩=some (.int .i64 0):=by rw [hvb8];exact farP2 r3 (by omega)
          have r4:vb8.cell? ⟨w.heap.size+1,4,none⟩=some (.int .i64 0):=by rw [hvb8];exact farP2 r4 (by omega)
          have r5:vb8.cell? ⟨w.heap.size+1,5,none⟩=some (.int .i64 0):=by rw [hvb8];exact farP2 r5 (by omega)
          have g70:vb8.cell? ⟨bk7,0,none⟩=some (.int .i64 x0):=by rw [hvb8];exact farP2 g70 (by omega)
          have g71:vb8.cell? ⟨bk7,1,none⟩=some (.int .i64 x1):=by rw [hvb8];exact farP2 g71 (by omega)
          have HW:=Lib.hid (show Up w vb8 by rw [hvb8];exact HW.out.setP2 (by omega))
          clear hvb8 z0_ z1_ g80 g81
          have g80:=t0_
          have g81:=t1_
          clear t0_ t1_
          refine wpAnyH_done (by kernel_rfl) ?_ _
          clear hHeld
          go_wp2_with fail
          go_meet
          exact ⟨bk7,bk6,rfl,rfl,Lib.hid ⟨HW.out,g70,g71,g80,g81,r0,r1,r2,r3,r4,r5⟩⟩
      · go_simp
        refine hK.out _ _ ?hB14 (fun hHeld=>?_)
        case hB14=>(with_reducible exact keepK14 (Lib.hid ((Up.refl _).alloc _ _)) hHeld)
        clear hK K
        (try simp only [Act.put,stpA,stpB,stpC])
        obtain ⟨ua9,hua9⟩:∃ z,z=uc0_0.alloc (.cells #[.int .i64 0,.int .i64 0] 31):=⟨_,rfl⟩
        rw [← hua9] at hHeld ⊢
        have hv:Up uc0_0 ua9:=by rw [hua9];exact (Up.refl _).alloc _ _
        have g70:ua9.cell? ⟨uc0_0.heap.size,0,none⟩=some (.int .i64 0):=by rw [hua9];simp [go_sem]
        have g71:ua9.cell? ⟨uc0_0.heap.size,1,none⟩=some (.int .i64 0):=by rw [hua9];simp [go_sem]
        have hr_:=World.block_lt_of_cell? _ _ r0
        skip
        have r0:=hv.keep _ _ _ r0
        have r1:=hv.keep _ _ _ r1
        have r2:=hv.keep _ _ _ r2
        have r3:=hv.keep _ _ _ r3
        have r4:=hv.keep _ _ _ r4
        have r5:=hv.keep _ _ _ r5
        have HW:=Lib.hid (HW.out.trans hv)
        have bk9l:p1<uc0_0.heap.size∧p2<uc0_0.heap.size∧w.heap.size+1<uc0_0.heap.size:=⟨HP1,HP2,hr_⟩
        have HP1_:p1<ua9.heap.size:=Nat.lt_of_lt_of_le HP1 hv.size
        have HP2_:p2<ua9.heap.size:=Nat.lt_of_lt_of_le HP2 hv.size
        clear HP1 HP2 hv hua9 hr_
        have HP1:=HP1_
        have HP2:=HP2_
        clear HP1_ HP2_
        have HBg7:uc0_0.heap.size<ua9.heap.size:=World.block_lt_of_cell? _ _ g70
        generalize uc0_0.heap.size=bk9 at *
        refine wpAnyH_ready (rs:=[3,5]) (by kernel_rfl) (by simp) ?_
        refine AllReadyH.cons (o:=⟨_,_,_,_,_,_⟩) rfl (fun K hK=>?_) (AllReadyH.cons (o:=⟨_,_,_,_,_,_⟩) rfl (fun K hK=>?_) (AllReadyH.nil))
        · go_simp
          (go_at_call 37;(with_reducible refine (K2.out _).mono ?_);rintro e uc1_9 ⟨rfl,hu⟩;have HW:=Lib.hid (HW.out.trans hu);have HX:=Lib.hid (keepK14 (Lib.hid hu) hHeld);have r0:=hu.keep _ _ _ r0;have r1:=hu.keep _ _ _ r1;have r2:=hu.keep _ _ _ r2;have r3:=hu.keep _ _ _ r3;have r4:=hu.keep _ _ _ r4;have r5:=hu.keep _ _ _ r5;have g70:=hu.keep _ _ _ g70;have g71:=hu.keep _ _ _ g71;have HP1:p1<uc1_9.heap.size:=Nat.lt_of_lt_of_le HP1 hu.size;have HP2:p2<uc1_9.heap.size:=Nat.lt_of_lt_of_le HP2 hu.size;have HBg7:bk9<uc1_9.heap.size:=World.block_lt_of_cell? _ _ g70;clear hu)
          (try go_wp2_with fail)
          refine hK.out _ _ ?hB15 (fun hHeld=>?_)
          case hB15=>(with_reducible exact HX.out)
          clear hK K
          (try simp only [Act.put,stpA,stpB,stpC])
          refine wpAnyH_ready (rs:=[5]) (by kernel_rfl) (by simp) ?_
          refine AllReadyH.cons (o:=⟨_,_,_,_,_,_⟩) rfl (fun K hK=>?_) (AllReadyH.nil)
          go_simp
          refine hK.out _ _ ?hB16 (fun hHeld=>?_)
          case hB16=>(with_reducible exact keepK14 (Lib.hid ((Up.refl _).alloc _ _)) hHeld)
          clear hK K
          (try simp only [Act.put,stpA,stpB,stpC])
          obtain ⟨ua11,hua11⟩:∃ z,z=uc1_9.alloc (.cells #[.int .i64 0,.int .i64 0] 31):=⟨_,rfl⟩
          rw [← hua11] at hHeld ⊢
          have hv:Up uc1_9 ua11:=by rw [hua11];exact (Up.refl _).alloc _ _
          have g80:ua11.cell? ⟨uc1_9.heap.size,0,none⟩=some (.int .i64 0):=by rw [hua11];simp [go_sem]
          have g81:ua11.cell? ⟨uc1_9.heap.size,1,none⟩=some (.int .i64 0):=by rw [hua11];simp [go_sem]
          have hr_:=World.block_lt_of_cell? _ _ r0
          skip
          have r0:=hv.keep _ _ _ r0
          have r1:=hv.keep _ _ _ r1
          have r2:=hv.keep _ _ _ r2
          have r3:=hv.keep _ _ _ r3
          have r4:=hv.keep _ _ _ r4
          have r5:=hv.keep _ _ _ r5
          have g70:=hv.keep _ _ _ g70
          have g71:=hv.keep _ _ _ g71
          have HW:=Lib.hid (HW.out.trans hv)
          have bk11l:p1<uc1_9.heap.size∧p2<uc1_9.heap.size∧w.heap.size+1<uc1_9.heap.size:=⟨HP1,HP2,hr_⟩
          have HP1_:p1<ua11.heap.size:=Nat.lt_of_lt_of_le HP1 hv.size
          have HP2_:p2<ua11.heap.size:=Nat.lt_of_lt_of_le HP2 hv.size
          clear HP1 HP2 hv hua11 hr_
          have HP1:=HP1_
          have HP2:=HP2_
          clear HP1_ HP2_
          have bk11n:bk9<uc1_9.heap.size:=by assumption
          clear HBg7
          have HBg8:uc1_9.heap.size<ua11.heap.size:=World.block_lt_of_cell? _ _ g80
          have HBg7:bk9<ua11.heap.size:=World.block_lt_of_cell? _ _ g70
          generalize uc1_9.heap.size=bk11 at *
          have z0_:=HW.out.ownGe (g:=bk9) (by omega) 0
          have z1_:=HW.out.ownGe (g:=bk9) (by omega) 1
          refine wpAnyH_ready (rs:=[6]) (by kernel_rfl) (by simp) ?_
          refine AllReadyH.cons (o:=⟨_,_,_,_,_,_⟩) rfl (fun K hK=>?_) (AllReadyH.nil)
          go_simp
          refine hK.out _ _ ?hB17 (fun hHeld=>?_)
          case hB17=>(with_reducible exact set2K14 hHeld (by omega) (by omega) (by omega))
          clear hK K
          (try simp only [Act.put,stpA,stpB,stpC])
          obtain ⟨va12,hva12⟩:∃ z,z=(ua11.setCell ⟨bk9,0,none⟩ (.int .i64 x0)).setCell ⟨bk9,1,none⟩ (.int .i64 x1):=⟨_,rfl⟩
          rw [← hva12] at hHeld ⊢
          obtain ⟨t0_,t1_⟩:=cellsP2 (w:=ua11) (p:=bk9) (v0:=.int .i64 x0) (v1:=.int .i64 x1) g70 g71
          rw [← hva12] at t0_ t1_
          have r0:va12.cell? ⟨w.heap.size+1,0,none⟩=some (.int .i64 0):=by rw [hva12];exact farP2 r0 (by omega)
          have r1:va12.cell? ⟨w.heap.size+1,1,none⟩=some (.int .i64 0):=by rw [hva12];exact farP2 r1 (by omega)
          have r2:va12.cell? ⟨w.heap.size+1,2,none⟩=some (.int .i64 0):=by rw [hva12];exact farP2 r2 (by omega)
          have r3:va12.cell? ⟨w.heap.size+1,3,none⟩=some (.int .i64 0):=by rw [hva12];exact farP2 r3 (by omega)
          have r4:va12.cell? ⟨w.heap.size+1,4,none⟩=some (.int .i64 0):=by rw [hva12];exact farP2 r4 (by omega)
          have r5:va12.cell? ⟨w.heap.size+1,5,none⟩=some (.int .i64 0):=by rw [hva12];exact farP2 r5 (by omega)
          have g80:va12.cell? ⟨bk11,0,none⟩=some (.int .i64 0):=by rw [hva12];exact farP2 g80 (by omega)
          have g81:va12.cell? ⟨bk11,1,none⟩=some (.int .i64 0):=by rw [hva12];exact farP2 g81 (by omega)
          have HW:=Lib.hid (show Up w va12 by rw [hva12];exact HW.out.setP2 (by omega))
          clear hva12 z0_ z1_ g70 g71
          have g70:=t0_
          have g71:=t1_
          clear t0_ t1_
          have z0_:=HW.out.ownGe (g:=bk11) (by omega) 0
          have z1_:=HW.out.ownGe (g:=bk11) (by omega) 1
          refine wpAnyH_ready (rs:=[7]) (by kernel_rfl) (by simp) ?_
          refine AllReadyH.cons (o:=⟨_,_,_,_,_,_⟩) rfl (fun K hK=>?_) (AllReadyH.nil)
          go_simp
          refine hK.out _ _ ?hB18 (fun hHeld=>?_)
          case hB18=>(with_reducible exact set2K14 hHeld (by omega) (by omega) (by omega))
          clear hK K
          (try simp only [Act.put,stpA,stpB,stpC])
          obtain ⟨vb12,hvb12⟩:∃ z,z=(va12.setCell ⟨bk11,0,none⟩ (.int .i64 y0)).setCell ⟨bk11,1,none⟩ (.int .i64 y1):=⟨_,rfl⟩
          rw [← hvb12] at hHeld ⊢
          obtain ⟨t0_,t1_⟩:=cellsP2 (w:=va12) (p:=bk11) (v0:=.int .i64 y0) (v1:=.int .i64 y1) g80 g81
          rw [← hvb12] at t0_ t1_
          have r0:vb12.cell? ⟨w.heap.size+1,0,none⟩=some (.int .i64 0):=by rw [hvb12];exact farP2 r0 (by omega)
          have r1:vb12.cell? ⟨w.heap.size+1,1,none⟩=some (.int .i64 0):=by rw [hvb12];exact farP2 r1 (by omega)
          have r2:vb12.cell? ⟨w.heap.size+1,2,none⟩=some (.int .i64 0):=by rw [hvb12];exact farP2 r2 (by omega)
          have r3:vb12.cell? ⟨w.heap.size+1,3,none⟩=some (.int .i64 0):=by rw [hvb12];exact farP2 r3 (by omega)
          have r4:vb12.cell? ⟨w.heap.size+1,4,none⟩=some (.int .i64 0):=by rw [hvb12];exact farP2 r4 (by omega)
          have r5:vb12.cell? ⟨w.heap.size+1,5,none⟩=some (.int .i64 0):=by rw [hvb12];exact farP2 r5 (by omega)
          have g70:vb12.cell? ⟨bk9,0,none⟩=some (.int .i64 x0):=by rw [hvb12];exact farP2 g70 (by omega)
          have g71:vb12.cell? ⟨bk9,1,none⟩=some (.int .i64 x1):=by rw [hvb12];exact farP2 g71 (by omega)
          have HW:=Lib.hid (show Up w vb12 by rw [hvb12];exact HW.out.setP2 (by omega))
          clear hvb12 z0_ z1_ g80 g81
          have g80:=t0_
          have g81:=t1_
          clear t0_ t1_
          refine wpAnyH_done (by kernel_rfl) ?_ _
          clear hHeld
          go_wp2_with fail
          go_meet
          exact ⟨bk9,bk11,rfl,rfl,Lib.hid ⟨HW.out,g70,g71,g80,g81,r0,r1,r2,r3,r4,r5⟩⟩
        · go_simp
          refine hK.out _ _ ?hB19 (fun hHeld=>?_)
          case hB19=>(with_reducible exact keepK14 (Lib.hid ((Up.refl _).alloc _ _)) hHeld)
          clear hK K
          (try simp only [Act.put,stpA,stpB,stpC])
          obtain ⟨ua13,hua13⟩:∃ z,z=ua9.alloc (.cells #[.int .i64 0,.int .i64 0] 31):=⟨_,rfl⟩
          rw [← hua13] at hHeld ⊢
          have hv:Up ua9 ua13:=by rw [hua13];exact (Up.refl _).alloc _ _
          have g80:ua13.cell? ⟨ua9.heap.size,0,none⟩=some (.int .i64 0):=by rw [hua13];simp [go_sem]
          have g81:ua13.cell? ⟨ua9.heap.size,1,none⟩=some (.int .i64 0):=by rw [hua13];simp [go_sem]
          have hr_:=World.block_lt_of_cell? _ _ r0
          skip
          have r0:=hv.keep _ _ _ r0
          have r1:=hv.keep _ _ _ r1
          have r2:=hv.keep _ _ _ r2
          have r3:=hv.keep _ _ _ r3
          have r4:=hv.keep _ _ _ r4
          have r5:=hv.keep _ _ _ r5
          have g70:=hv.keep _ _ _ g70
          have g71:=hv.keep _ _ _ g71
          have HW:=Lib.hid (HW.out.trans hv)
          have bk13l:p1<ua9.heap.size∧p2<ua9.heap.size∧w.heap.size+1<ua9.heap.size:=⟨HP1,HP2,hr_⟩
          have HP1_:p1<ua13.heap.size:=Nat.lt_of_lt_of_le HP1 hv.size
          have HP2_:p2<ua13.heap.size:=Nat.lt_of_lt_of_le HP2 hv.size
          clear HP1 HP2 hv hua13 hr_
          have HP1:=HP1_
          have HP2:=HP2_
          clear HP1_ HP2_
          have bk13n:bk9<ua9.heap.size:=by assumption
          clear HBg7
          have HBg8:ua9.heap.size<ua13.heap.size:=World.block_lt_of_cell? _ _ g80
          have HBg7:bk9<ua13.heap.size:=World.block_lt_of_cell? _ _ g70
          generalize ua9.heap.size=bk13 at *
          refine wpAnyH_ready (rs:=[3]) (by kernel_rfl) (by simp) ?_
          refine AllReadyH.cons (o:=⟨_,_,_,_,_,_⟩) rfl (fun K hK=>?_) (AllReadyH.nil)
          go_simp
          (go_at_call 37;(with_reducible refine (K2.out _).mono ?_);rintro e uc1_13 ⟨rfl,hu⟩;have HW:=Lib.hid (HW.out.trans hu);have HX:=Lib.hid (keepK14 (Lib.hid hu) hHeld);have r0:=hu.keep _ _ _ r0;have r1:=hu.keep _ _ _ r1;have r2:=hu.keep _ _ _ r2;have r3:=hu.keep _ _ _ r3;have r4:=hu.keep _ _ _ r4;have r5:=hu.keep _ _ _ r5;have g70:=hu.keep _ _ _ g70;have g71:=hu.keep _ _ _ g71;have g80:=hu.keep _ _ _ g80;have g81:=hu.keep _ _ _ g81;have HP1:p1<uc1_13.heap.size:=Nat.lt_of_lt_of_le HP1 hu.size;have HP2:p2<uc1_13.heap.size:=Nat.lt_of_lt_of_le HP2 hu.size;have HBg7:bk9<uc1_13.heap.size:=World.block_lt_of_cell? _ _ g70;have HBg8:bk13<uc1_13.heap.size:=World.block_lt_of_cell? _ _ g80;clear hu)
          (try go_wp2_with fail)
          refine hK.out _ _ ?hB20 (fun hHeld=>?_)
          case hB20=>(with_reducible exact HX.out)
          clear hK K
          (try simp only [Act.put,stpA,stpB,stpC])
          have z0_:=HW.out.ownGe (g:=bk9) (by omega) 0
          have z1_:=HW.out.ownGe (g:=bk9) (by omega) 1
          refine wpAnyH_ready (rs:=[6]) (by kernel_rfl) (by simp) ?_
          refine AllReadyH.cons (o:=⟨_,_,_,_,_,_⟩) rfl (fun K hK=>?_) (AllReadyH.nil)
          go_simp
          refine hK.out _ _ ?hB21 (fun hHeld=>?_)
          case hB21=>(with_reducible exact set2K14 hHeld (by omega) (by omega) (by omega))
          clear hK K
          (try simp only [Act.put,stpA,stpB,stpC])
          obtain ⟨va15,hva15⟩:∃ z,z=(uc1_13.setCell ⟨bk9,0,none⟩ (.int .i64 x0)).setCell ⟨bk9,1,none⟩ (.int .i64 x1):=⟨_,rfl⟩
          rw [← hva15] at hHeld ⊢
          obtain ⟨t0_,t1_⟩:=cellsP2 (w:=uc1_13) (p:=bk9) (v0:=.int .i64 x0) (v1:=.int .i64 x1) g70 g71
          rw [← hva15] at t0_ t1_
          have r0:va15.cell? ⟨w.heap.size+1,0,none⟩=some (.int .i64 0):=by rw [hva15];exact farP2 r0 (by omega)
          have r1:va15.cell? ⟨w.heap.size+1,1,none⟩=some (.int .i64 0):=by rw [hva15];exact farP2 r1 (by omega)
          have r2:va15.cell? ⟨w.heap.size+1,2,none⟩=some (.int .i64 0):=by rw [hva15];exact farP2 r2 (by omega)
          have r3:va15.cell? ⟨w.heap.size+1,3,none⟩=some (.int .i64 0):=by rw [hva15];exact farP2 r3 (by omega)
          have r4:va15.cell? ⟨w.heap.size+1,4,none⟩=some (.int .i64 0):=by rw [hva15];exact farP2 r4 (by omega)
          have r5:va15.cell? ⟨w.heap.size+1,5,none⟩=some (.int .i64 0):=by rw [hva15];exact farP2 r5 (by omega)
          have g80:va15.cell? ⟨bk13,0,none⟩=some (.int .i64 0):=by rw [hva15];exact farP2 g80 (by omega)
          have g81:va15.cell? ⟨bk13,1,none⟩=some (.int .i64 0):=by rw [hva15];exact farP2 g81 (by omega)
          have HW:=Lib.hid (show Up w va15 by rw [hva15];exact HW.out.setP2 (by omega))
          clear hva15 z0_ z1_ g70 g71
          have g70:=t0_
          have g71:=t1_
          clear t0_ t1_
          have z0_:=HW.out.ownGe (g:=bk13) (by omega) 0
          have z1_:=HW.out.ownGe (g:=bk13) (by omega) 1
          refine wpAnyH_ready (rs:=[7]) (by kernel_rfl) (by simp) ?_
          refine AllReadyH.cons (o:=⟨_,_,_,_,_,_⟩) rfl (fun K hK=>?_) (AllReadyH.nil)
          go_simp
          refine hK.out _ _ ?hB22 (fun hHeld=>?_)
          case hB22=>(with_reducible exact set2K14 hHeld (by omega) (by omega) (by omega))
          clear hK K
          (try simp only [Act.put,stpA,stpB,stpC])
          obtain ⟨vb15,hvb15⟩:∃ z,z=(va15.setCell ⟨bk13,0,none⟩ (.int .i64 y0)).setCell ⟨bk13,1,none⟩ (.int .i64 y1):=⟨_,rfl⟩
          rw [← hvb15] at hHeld ⊢
          obtain ⟨t0_,t1_⟩:=cellsP2 (w:=va15) (p:=bk13) (v0:=.int .i64 y0) (v1:=.int .i64 y1) g80 g81
          rw [← hvb15] at t0_ t1_
          have r0:vb15.cell? ⟨w.heap.size+1,0,none⟩=some (.int .i64 0):=by rw [hvb15];exact farP2 r0 (by omega)
          have r1:vb15.cell? ⟨w.heap.size+1,1,none⟩=some (.int .i64 0):=by rw [hvb15];exact farP2 r1 (by omega)
          have r2:vb15.cell? ⟨w.heap.size+1,2,none⟩=some (.int .i64 0):=by rw [hvb15];exact farP2 r2 (by omega)
          have r3:vb15.cell? ⟨w.heap.size+1,3,none⟩=some (.int .i64 0):=by rw [hvb15];exact farP2 r3 (by omega)
          have r4:vb15.cell? ⟨w.heap.size+1,4,none⟩=some (.int .i64 0):=by rw [hvb15];exact farP2 r4 (by omega)
          have r5:vb15.cell? ⟨w.heap.size+1,5,none⟩=some (.int .i64 0):=by rw [hvb15];exact farP2 r5 (by omega)
          have g70:vb15.cell? ⟨bk9,0,none⟩=some (.int .i64 x0):=by rw [hvb15];exact farP2 g70 (by omega)
          have g71:vb15.cell? ⟨bk9,1,none⟩=some (.int .i64 x1):=by rw [hvb15];exact farP2 g71 (by omega)
          have HW:=Lib.hid (show Up w vb15 by rw [hvb15];exact HW.out.setP2 (by omega))
          clear hvb15 z0_ z1_ g80 g81
          have g80:=t0_
          have g81:=t1_
          clear t0_ t1_
          refine wpAnyH_done (by kernel_rfl) ?_ _
          clear hHeld
          go_wp2_with fail
          go_meet
          exact ⟨bk9,bk13,rfl,rfl,Lib.hid ⟨HW.out,g70,g71,g80,g81,r0,r1,r2,r3,r4,r5⟩⟩
      · go_simp
        refine hK.out _ _ ?hB23 (fun hHeld=>?_)
        case hB23=>(with_reducible exact keepK14 (Lib.hid ((Up.refl _).alloc _ _)) hHeld)
        clear hK K
        (try simp only [Act.put,stpA,stpB,stpC])
        obtain ⟨ua16,hua16⟩:∃ z,z=uc0_0.alloc (.cells #[.int .i64 0,.int .i64 0] 31):=⟨_,rfl⟩
        rw [← hua16] at hHeld ⊢
        have hv:Up uc0_0 ua16:=by rw [hua16];exact (Up.refl _).alloc _ _
        have g80:ua16.cell? ⟨uc0_0.heap.size,0,none⟩=some (.int .i64 0):=by rw [hua16];simp [go_sem]
        have g81:ua16.cell? ⟨uc0_0.heap.size,1,none⟩=some (.int .i64 0):=by rw [hua16];simp [go_sem]
        have hr_:=World.block_lt_of_cell? _ _ r0
        skip
        have r0:=hv.keep _ _ _ r0
        have r1:=hv.keep _ _ _ r1
        have r2:=hv.keep _ _ _ r2
        have r3:=hv.keep _ _ _ r3
        have r4:=hv.keep _ _ _ r4
        have r5:=hv.keep _ _ _ r5
        have HW:=Lib.hid (HW.out.trans hv)
        have bk16l:p1<uc0_0.heap.size∧p2<uc0_0.heap.size∧w.heap.size+1<uc0_0.heap.size:=⟨HP1,HP2,hr_⟩
        have HP1_:p1<ua16.heap.size:=Nat.lt_of_lt_of_le HP1 hv.size
        have HP2_:p2<ua16.heap.size:=Nat.lt_of_lt_of_le HP2 hv.size
        clear HP1 HP2 hv hua16 hr_
        have HP1:=HP1_
        have HP2:=HP2_
        clear HP1_ HP2_
        have HBg8:uc0_0.heap.size<ua16.heap.size:=World.block_lt_of_cell? _ _ g80
        generalize uc0_0.heap.size=bk16 at *
        refine wpAnyH_ready (rs:=[3,4]) (by kernel_rfl) (by simp) ?_
        refine AllReadyH.cons (o:=⟨_,_,_,_,_,_⟩) rfl (fun K hK=>?_) (AllReadyH.cons (o:=⟨_,_,_,_,_,_⟩) rfl (fun K hK=>?_) (AllReadyH.nil))
        · go_simp
          (go_at_call 37;(with_reducible refine (K2.out _).mono ?_);rintro e uc1_16 ⟨rfl,hu⟩;have HW:=Lib.hid (HW.out.trans hu);have HX:=Lib.hid (keepK14 (Lib.hid hu) hHeld);have r0:=hu.keep _ _ _ r0;have r1:=hu.keep _ _ _ r1;have r2:=hu.keep _ _ _ r2;have r3:=hu.keep _ _ _ r3;have r4:=hu.keep _ _ _ r4;have r5:=hu.keep _ _ _ r5;have g80:=hu.keep _ _ _ g80;have g81:=hu.keep _ _ _ g81;have HP1:p1<uc1_16.heap.size:=Nat.lt_of_lt_of_le HP1 hu.size;have HP2:p2<uc1_16.heap.size:=Nat.lt_of_lt_of_le HP2 hu.size;have HBg8:bk16<uc1_16.heap.size:=World.block_lt_of_cell? _ _ g80;clear hu)
          (try go_wp2_with fail)
          refine hK.out _ _ ?hB24 (fun hHeld=>?_)
          case hB24=>(with_reducible exact HX.out)
          clear hK K
          (try simp only [Act.put,stpA,stpB,stpC])
          refine wpAnyH_ready (rs:=[4]) (by kernel_rfl) (by simp) ?_
          refine AllReadyH.cons (o:=⟨_,_,_,_,_,_⟩) rfl (fun K hK=>?_) (AllReadyH.nil)
          go_simp
          refine hK.out _ _ ?hB25 (fun hHeld=>?_)
          case hB25=>(with_reducible exact keepK14 (Lib.hid ((Up.refl _).alloc _ _)) hHeld)
          clear hK K
          (try simp only [Act.put,stpA,stpB,stpC])
          obtain ⟨ua18,hua18⟩:∃ z,z=uc1_16.alloc (.cells #[.int .i64 0,.int .i64 0] 31):=⟨_,rfl⟩
          rw [← hua18] at hHeld ⊢
          have hv:Up uc1_16 ua18:=by rw [hua18];exact (Up.refl _).alloc _ _
          have g70:ua18.cell? ⟨uc1_16.heap.size,0,none⟩=some (.int .i64 0):=by rw [hua18];simp [go_sem]
          have g71:ua18.cell? ⟨uc1_16.heap.size,1,none⟩=some (.int .i64 0):=by rw [hua18];simp [go_sem]
          have hr_:=World.block_lt_of_cell? _ _ r0
          skip
          have r0:=hv.keep _ _ _ r0
          have r1:=hv.keep _ _ _ r1
          have r2:=hv.keep _ _ _ r2
          have r3:=hv.keep _ _ _ r3
          have r4:=hv.keep _ _ _ r4
          have r5:=hv.keep _ _ _ r5
          have g80:=hv.keep _ _ _ g80
          have g81:=hv.keep _ _ _ g81
          have HW:=Lib.hid (HW.out.trans hv)
          have bk18l:p1<uc1_16.heap.size∧p2<uc1_16.heap.size∧w.heap.size+1<uc1_16.heap.size:=⟨HP1,HP2,hr_⟩
          have HP1_:p1<ua18.heap.size:=Nat.lt_of_lt_of_le HP1 hv.size
          have HP2_:p2<ua18.heap.size:=Nat.lt_of_lt_of_le HP2 hv.size
          clear HP1 HP2 hv hua18 hr_
          have HP1:=HP1_
          have HP2:=HP2_
          clear HP1_ HP2_
          have bk18n:bk16<uc1_16.heap.size:=by assumption
          clear HBg8
          have HBg7:uc1_16.heap.size<ua18.heap.size:=World.block_lt_of_cell? _ _ g70
          have HBg8:bk16<ua18.heap.size:=World.block_lt_of_cell? _ _ g80
          generalize uc1_16.heap.size=bk18 at *
          have z0_:=HW.out.ownGe (g:=bk18) (by omega) 0
          have z1_:=HW.out.ownGe (g:=bk18) (by omega) 1
          refine wpAnyH_ready (rs:=[6]) (by kernel_rfl) (by simp) ?_
          refine AllReadyH.cons (o:=⟨_,_,_,_,_,_⟩) rfl (fun K hK=>?_) (AllReadyH.nil)
          go_simp
          refine hK.out _ _ ?hB26 (fun hHeld=>?_)
          case hB26=>(with_reducible exact set2K14 hHeld (by omega) (by omega) (by omega))
          clear hK K
          (try simp only [Act.put,stpA,stpB,stpC])
          obtain ⟨va19,hva19⟩:∃ z,z=(ua18.setCell ⟨bk18,0,none⟩ (.int .i64 x0)).setCell ⟨bk18,1,none⟩ (.int .i64 x1):=⟨_,rfl⟩
          rw [← hva19] at hHeld ⊢
          obtain ⟨t0_,t1_⟩:=cellsP2 (w:=ua18) (p:=bk18) (v0:=.int .i64 x0) (v1:=.int .i64 x1) g70 g71
          rw [← hva19] at t0_ t1_
          have r0:va19.cell? ⟨w.heap.size+1,0,none⟩=some (.int .i64 0):=by rw [hva19];exact farP2 r0 (by omega)
          have r1:va19.cell? ⟨w.heap.size+1,1,none⟩=some (.int .i64 0):=by rw [hva19];exact farP2 r1 (by omega)
          have r2:va19.cell? ⟨w.heap.size+1,2,none⟩=some (.int .i64 0):=by rw [hva19];exact farP2 r2 (by omega)
          have r3:va19.cell? ⟨w.heap.size+1,3,none⟩=some (.int .i64 0):=by rw [hva19];exact farP2 r3 (by omega)
          have r4:va19.cell? ⟨w.heap.size+1,4,none⟩=some (.int .i64 0):=by rw [hva19];exact farP2 r4 (by omega)
          have r5:va19.cell? ⟨w.heap.size+1,5,none⟩=some (.int .i64 0):=by rw [hva19];exact farP2 r5 (by omega)
          have g80:va19.cell? ⟨bk16,0,none⟩=some (.int .i64 0):=by rw [hva19];exact farP2 g80 (by omega)
          have g81:va19.cell? ⟨bk16,1,none⟩=some (.int .i64 0):=by rw [hva19];exact farP2 g81 (by omega)
          have HW:=Lib.hid (show Up w va19 by rw [hva19];exact HW.out.setP2 (by omega))
          clear hva19 z0_ z1_ g70 g71
          have g70:=t0_
          have g71:=t1_
          clear t0_ t1_
          have z0_:=HW.out.ownGe (g:=bk16) (by omega) 0
          have z1_:=HW.out.ownGe (g:=bk16) (by omega) 1
          refine wpAnyH_ready (rs:=[7]) (by kernel_rfl) (by simp) ?_
          refine AllReadyH.cons (o:=⟨_,_,_,_,_,_⟩) rfl (fun K hK=>?_) (AllReadyH.nil)
          go_simp
          refine hK.out _ _ ?hB27 (fun hHeld=>?_)
          case hB27=>(with_reducible exact set2K14 hHeld (by omega) (by omega) (by omega))
          clear hK K
          (try simp only [Act.put,stpA,stpB,stpC])
          obtain ⟨vb19,hvb19⟩:∃ z,z=(va19.setCell ⟨bk16,0,none⟩ (.int .i64 y0)).setCell ⟨bk16,1,none⟩ (.int .i64 y1):=⟨_,rfl⟩
          rw [← hvb19] at hHeld ⊢
          obtain ⟨t0_,t1_⟩:=cellsP2 (w:=va19) (p:=bk16) (v0:=.int .i64 y0) (v1:=.int .i64 y1) g80 g81
          rw [← hvb19] at t0_ t1_
          have r0:vb19.cell? ⟨w.heap.size+1,0,none⟩=some (.int .i64 0):=by rw [hvb19];exact farP2 r0 (by omega)
          have r1:vb19.cell? ⟨w.heap.size+1,1,none⟩=some (.int .i64 0):=by rw [hvb19];exact farP2 r1 (by omega)
          have r2:vb19.cell? ⟨w.heap.size+1,2,none⟩=some (.int .i64 0):=by rw [hvb19];exact farP2 r2 (by omega)
          have r3:vb19.cell? ⟨w.heap.size+1,3,none⟩=some (.int .i64 0):=by rw [hvb19];exact farP2 r3 (by omega)
          have r4:vb19.cell? ⟨w.heap.size+1,4,none⟩=some (.int .i64 0):=by rw [hvb19];exact farP2 r4 (by omega)
          have r5:vb19.cell? ⟨w.heap.size+1,5,none⟩=some (.int .i64 0):=by rw [hvb19];exact farP2 r5 (by omega)
          have g70:vb19.cell? ⟨bk18,0,none⟩=some (.int .i64 x0):=by rw [hvb19];exact farP2 g70 (by omega)
          have g71:vb19.cell? ⟨bk18,1,none⟩=some (.int .i64 x1):=by rw [hvb19];exact farP2 g71 (by omega)
          have HW:=Lib.hid (show Up w vb19 by rw [hvb19];exact HW.out.setP2 (by omega))
          clear hvb19 z0_ z1_ g80 g81
          have g80:=t0_
          have g81:=t1_
          clear t0_ t1_
          refine wpAnyH_done (by kernel_rfl) ?_ _
          clear hHeld
          go_wp2_with fail
          go_meet
          exact ⟨bk18,bk16,rfl,rfl,Lib.hid ⟨HW.out,g70,g71,g80,g81,r0,r1,r2,r3,r4,r5⟩⟩
        · go_simp
          refine hK.out _ _ ?hB28 (fun hHeld=>?_)
          case hB28=>(with_reducible exact keepK14 (Lib.hid ((Up.refl _).alloc _ _)) hHeld)
          clear hK K
          (try simp only [Act.put,stpA,stpB,stpC])
          obtain ⟨ua20,hua20⟩:∃ z,z=ua16.alloc (.cells #[.int .i64 0,.int .i64 0] 31):=⟨_,rfl⟩
          rw [← hua20] at hHeld ⊢
          have hv:Up ua16 ua20:=by rw [hua20];exact (Up.refl _).alloc _ _
          have g70:ua20.cell? ⟨ua16.heap.size,0,none⟩=some (.int .i64 0):=by rw [hua20];simp [go_sem]
          have g71:ua20.cell? ⟨ua16.heap.size,1,none⟩=some (.int .i64 0):=by rw [hua20];simp [go_sem]
          have hr_:=World.block_lt_of_cell? _ _ r0
          skip
          have r0:=hv.keep _ _ _ r0
          have r1:=hv.keep _ _ _ r1
          have r2:=hv.keep _ _ _ r2
          have r3:=hv.keep _ _ _ r3
          have r4:=hv.keep _ _ _ r4
          have r5:=hv.keep _ _ _ r5
          have g80:=hv.keep _ _ _ g80
          have g81:=hv.keep _ _ _ g81
          have HW:=Lib.hid (HW.out.trans hv)
          have bk20l:p1<ua16.heap.size∧p2<ua16.heap.size∧w.heap.size+1<ua16.heap.size:=⟨HP1,HP2,hr_⟩
          have HP1_:p1<ua20.heap.size:=Nat.lt_of_lt_of_le HP1 hv.size
          have HP2_:p2<ua20.heap.size:=Nat.lt_of_lt_of_le HP2 hv.size
          clear HP1 HP2 hv hua20 hr_
          have HP1:=HP1_
          have HP2:=HP2_
          clear HP1_ HP2_
          have bk20n:bk16<ua16.heap.size:=by assumption
          clear HBg8
          have HBg7:ua16.heap.size<ua20.heap.size:=World.block_lt_of_cell? _ _ g70
          have HBg8:bk16<ua20.heap.size:=World.block_lt_of_cell? _ _ g80
          generalize ua16.heap.size=bk20 at *
          refine wpAnyH_ready (rs:=[3]) (by kernel_rfl) (by simp) ?_
          refine AllReadyH.cons (o:=⟨_,_,_,_,_,_⟩) rfl (fun K hK=>?_) (AllReadyH.nil)
          go_simp
          (go_at_call 37;(with_reducible refine (K2.out _).mono ?_);rintro e uc1_20 ⟨rfl,hu⟩;have HW:=Lib.hid (HW.out.trans hu);have HX:=Lib.hid (keepK14 (Lib.hid hu) hHeld);have r0:=hu.keep _ _ _ r0;have r1:=hu.keep _ _ _ r1;have r2:=hu.keep _ _ _ r2;have r3:=hu.keep _ _ _ r3;have r4:=hu.keep _ _ _ r4;have r5:=hu.keep _ _ _ r5;have g70:=hu.keep _ _ _ g70;have g71:=hu.keep _ _ _ g71;have g80:=hu.keep _ _ _ g80;have g81:=hu.keep _ _ _ g81;have HP1:p1<uc1_20.heap.size:=Nat.lt_of_lt_of_le HP1 hu.size;have HP2:p2<uc1_20.heap.size:=Nat.lt_of_lt_of_le HP2 hu.size;have HBg7:bk20<uc1_20.heap.size:=World.block_lt_of_cell? _ _ g70;have HBg8:bk16<uc1_20.heap.size:=World.block_lt_of_cell? _ _ g80;clear hu)
          (try go_wp2_with fail)
          refine hK.out _ _ ?hB29 (fun hHeld=>?_)
          case hB29=>(with_reducible exact HX.out)
          clear hK K
          (try simp only [Act.put,stpA,stpB,stpC])
          have z0_:=HW.out.ownGe (g:=bk20) (by omega) 0
          have z1_:=HW.out.ownGe (g:=bk20) (by omega) 1
          refine wpAnyH_ready (rs:=[6]) (by kernel_rfl) (by simp) ?_
          refine AllReadyH.cons (o:=⟨_,_,_,_,_,_⟩) rfl (fun K hK=>?_) (AllReadyH.nil)
          go_simp
          refine hK.out _ _ ?hB30 (fun hHeld=>?_)
          case hB30=>(with_reducible exact set2K14 hHeld (by omega) (by omega) (by omega))
          clear hK K
          (try simp only [Act.put,stpA,stpB,stpC])
          obtain ⟨va22,hva22⟩:∃ z,z=(uc1_20.setCell ⟨bk20,0,none⟩ (.int .i64 x0)).setCell ⟨bk20,1,none⟩ (.int .i64 x1):=⟨_,rfl⟩
          rw [← hva22] at hHeld ⊢
          obtain ⟨t0_,t1_⟩:=cellsP2 (w:=uc1_20) (p:=bk20) (v0:=.int .i64 x0) (v1:=.int .i64 x1) g70 g71
          rw [← hva22] at t0_ t1_
          have r0:va22.cell? ⟨w.heap.size+1,0,none⟩=some (.int .i64 0):=by rw [hva22];exact farP2 r0 (by omega)
          have r1:va22.cell? ⟨w.heap.size+1,1,none⟩=some (.int .i64 0):=by rw [hva22];exact farP2 r1 (by omega)
          have r2:va22.cell? ⟨w.heap.size+1,2,none⟩=some (.int .i64 0):=by rw [hva22];exact farP2 r2 (by omega)
          have r3:va22.cell? ⟨w.heap.size+1,3,none⟩=some (.int .i64 0):=by rw [hva22];exact farP2 r3 (by omega)
          have r4:va22.cell? ⟨w.heap.size+1,4,none⟩=some (.int .i64 0):=by rw [hva22];exact farP2 r4 (by omega)
          have r5:va22.cell? ⟨w.heap.size+1,5,none⟩=some (.int .i64 0):=by rw [hva22];exact farP2 r5 (by omega)
          have g80:va22.cell? ⟨bk16,0,none⟩=some (.int .i64 0):=by rw [hva22];exact farP2 g80 (by omega)
          have g81:va22.cell? ⟨bk16,1,none⟩=some (.int .i64 0):=by rw [hva22];exact farP2 g81 (by omega)
          have HW:=Lib.hid (show Up w va22 by rw [hva22];exact HW.out.setP2 (by omega))
          clear hva22 z0_ z1_ g70 g71
          have g70:=t0_
          have g71:=t1_
          clear t0_ t1_
          have z0_:=HW.out.ownGe (g:=bk16) (by omega) 0
          have z1_:=HW.out.ownGe (g:=bk16) (by omega) 1
          refine wpAnyH_ready (rs:=[7]) (by kernel_rfl) (by simp) ?_
          refine AllReadyH.cons (o:=⟨_,_,_,_,_,_⟩) rfl (fun K hK=>?_) (AllReadyH.nil)
          go_simp
          refine hK.out _ _ ?hB31 (fun hHeld=>?_)
          case hB31=>(with_reducible exact set2K14 hHeld (by omega) (by omega) (by omega))
          clear hK K
          (try simp only [Act.put,stpA,stpB,stpC])
          obtain ⟨vb22,hvb22⟩:∃ z,z=(va22.setCell ⟨bk16,0,none⟩ (.int .i64 y0)).setCell ⟨bk16,1,none⟩ (.int .i64 y1):=⟨_,rfl⟩
          rw [← hvb22] at hHeld ⊢
          obtain ⟨t0_,t1_⟩:=cellsP2 (w:=va22) (p:=bk16) (v0:=.int .i64 y0) (v1:=.int .i64 y1) g80 g81
          rw [← hvb22] at t0_ t1_
          have r0:vb22.cell? ⟨w.heap.size+1,0,none⟩=some (.int .i64 0):=by rw [hvb22];exact farP2 r0 (by omega)
          have r1:vb22.cell? ⟨w.heap.size+1,1,none⟩=some (.int .i64 0):=by rw [hvb22];exact farP2 r1 (by omega)
          have r2:vb22.cell? ⟨w.heap.size+1,2,none⟩=some (.int .i64 0):=by rw [hvb22];exact farP2 r2 (by omega)
          have r3:vb22.cell? ⟨w.heap.size+1,3,none⟩=some (.int .i64 0):=by rw [hvb22];exact farP2 r3 (by omega)
          have r4:vb22.cell? ⟨w.heap.size+1,4,none⟩=some (.int .i64 0):=by rw [hvb22];exact farP2 r4 (by omega)
          have r5:vb22.cell? ⟨w.heap.size+1,5,none⟩=some (.int .i64 0):=by rw [hvb22];exact farP2 r5 (by omega)
          have g70:vb22.cell? ⟨bk20,0,none⟩=some (.int .i64 x0):=by rw [hvb22];exact farP2 g70 (by omega)
          have g71:vb22.cell? ⟨bk20,1,none⟩=some (.int .i64 x1):=by rw [hvb22];exact farP2 g71 (by omega)
          have HW:=Lib.hid (show Up w vb22 by rw [hvb22];exact HW.out.setP2 (by omega))
          clear hvb22 z0_ z1_ g80 g81
          have g80:=t0_
          have g81:=t1_
          clear t0_ t1_
          refine wpAnyH_done (by kernel_rfl) ?_ _
          clear hHeld
          go_wp2_with fail
          go_meet
          exact ⟨bk20,bk16,rfl,rfl,Lib.hid ⟨HW.out,g70,g71,g80,g81,r0,r1,r2,r3,r4,r5⟩⟩
    · go_simp
      refine hK.out _ _ ?hB32 (fun hHeld=>?_)
      case hB32=>(with_reducible exact keepK14 (Lib.hid ((Up.refl _).alloc _ _)) hHeld)
      clear hK K
      (try simp only [Act.put,stpA,stpB,stpC])
      obtain ⟨ua23,hua23⟩:∃ z,z=u0.alloc (.cells #[.int .i64 0,.int .i64 0] 31):=⟨_,rfl⟩
      rw [← hua23] at hHeld ⊢
      have hv:Up u0 ua23:=by rw [hua23];exact (Up.refl _).alloc _ _
      have g70:ua23.cell? ⟨u0.heap.size,0,none⟩=some (.int .i64 0):=by rw [hua23];simp [go_sem]
      have g71:ua23.cell? ⟨u0.heap.size,1,none⟩=some (.int .i64 0):=by rw [hua23];simp [go_sem]
      have hr_:=World.block_lt_of_cell? _ _ r0
      skip
      have r0:=hv.keep _ _ _ r0
      have r1:=hv.keep _ _ _ r1
      have r2:=hv.keep _ _ _ r2
      have r3:=hv.keep _ _ _ r3
      have r4:=hv.keep _ _ _ r4
      have r5:=hv.keep _ _ _ r5
      have HW:=Lib.hid (HW.out.trans hv)
      have bk23l:p1<u0.heap.size∧p2<u0.heap.size∧w.heap.size+1<u0.heap.size:=⟨HP1,HP2,hr_⟩
      have HP1_:p1<ua23.heap.size:=Nat.lt_of_lt_of_le HP1 hv.size
      have HP2_:p2<ua23.heap.size:=Nat.lt_of_lt_of_le HP2 hv.size
      clear HP1 HP2 hv hua23 hr_
      have HP1:=HP1_
      have HP2:=HP2_
      clear HP1_ HP2_
      have HBg7:u0.heap.size<ua23.heap.size:=World.block_lt_of_cell? _ _ g70
      generalize u0.heap.size=bk23 at *
      refine wpAnyH_ready (rs:=[1,5]) (by kernel_rfl) (by simp) ?_
      refine AllReadyH.cons (o:=⟨_,_,_,_,_,_⟩) rfl (fun K hK=>?_) (AllReadyH.cons (o:=⟨_,_,_,_,_,_⟩) rfl (fun K hK=>?_) (AllReadyH.nil))
      · go_simp
        (go_at_call 37;(with_reducible refine (K1.out _).mono ?_);rintro e uc0_23 ⟨rfl,hu⟩;have HW:=Lib.hid (HW.out.trans hu);have HX:=Lib.hid (keepK14 (Lib.hid hu) hHeld);have r0:=hu.keep _ _ _ r0;have r1:=hu.keep _ _ _ r1;have r2:=hu.keep _ _ _ r2;have r3:=hu.keep _ _ _ r3;have r4:=hu.keep _ _ _ r4;have r5:=hu.keep _ _ _ r5;have g70:=hu.keep _ _ _ g70;have g71:=hu.keep _ _ _ g71;have HP1:p1<uc0_23.heap.size:=Nat.lt_of_lt_of_le HP1 hu.size;have HP2:p2<uc0_23.heap.size:=Nat.lt_of_lt_of_le HP2 hu.size;have HBg7:bk23<uc0_23.heap.size:=World.block_lt_of_cell? _ _ g70;clear hu)
        (try go_wp2_with fail)
        refine hK.out _ _ ?hB33 (fun hHeld=>?_)
        case hB33=>(with_reducible exact HX.out)
        clear hK K
        (try simp only [Act.put,stpA,stpB,stpC])
        refine wpAnyH_ready (rs:=[3,5]) (by kernel_rfl) (by simp) ?_
        refine AllReadyH.cons (o:=⟨_,_,_,_,_,_⟩) rfl (fun K hK=>?_) (AllReadyH.cons (o:=⟨_,_,_,_,_,_⟩) rfl (fun K hK=>?_) (AllReadyH.nil))
        · go_simp
          (go_at_call 37;(with_reducible refine (K2.out _).mono ?_);rintro e uc1_24 ⟨rfl,hu⟩;have HW:=Lib.hid (HW.out.trans hu);have HX:=Lib.hid (keepK14 (Lib.hid hu) hHeld);have r0:=hu.keep _ _ _ r0;have r1:=hu.keep _ _ _ r1;have r2:=hu.keep _ _ _ r2;have r3:=hu.keep _ _ _ r3;have r4:=hu.keep _ _ _ r4;have r5:=hu.keep _ _ _ r5;have g70:=hu.keep _ _ _ g70;have g71:=hu.keep _ _ _ g71;have HP1:p1<uc1_24.heap.size:=Nat.lt_of_lt_of_le HP1 hu.size;have HP2:p2<uc1_24.heap.size:=Nat.lt_of_lt_of_le HP2 hu.size;have HBg7:bk23<uc1_24.heap.size:=World.block_lt_of_cell? _ _ g70;clear hu)
          (try go_wp2_with fail)
          refine hK.out _ _ ?hB34 (fun hHeld=>?_)
          case hB34=>(with_reducible exact HX.out)
          clear hK K
          (try simp only [Act.put,stpA,stpB,stpC])
          refine wpAnyH_ready (rs:=[5]) (by kernel_rfl) (by simp) ?_
          refine AllReadyH.cons (o:=⟨_,_,_,_,_,_⟩) rfl (fun K hK=>?_) (AllReadyH.nil)
          go_simp
          refine hK.out _ _ ?hB35 (fun hHeld=>?_)
          case hB35=>(with_reducible exact keepK14 (Lib.hid ((Up.refl _).alloc _ _)) hHeld)
          clear hK K
          (try simp only [Act.put,stpA,stpB,stpC])
          obtain ⟨ua26,hua26⟩:∃ z,z=uc1_24.alloc (.cells #[.int .i64 0,.int .i64 0] 31):=⟨_,rfl⟩
          rw [← hua26] at hHeld ⊢
          have hv:Up uc1_24 ua26:=by rw [hua26];exact (Up.refl _).alloc _ _
          have g80:ua26.cell? ⟨uc1_24.heap.size,0,none⟩=some (.int .i64 0):=by rw [hua26];simp [go_sem]
          have g81:ua26.cell? ⟨uc1_24.heap.size,1,none⟩=some (.int .i64 0):=by rw [hua26];simp [go_sem]
          have hr_:=World.block_lt_of_cell? _ _ r0
          skip
          have r0:=hv.keep _ _ _ r0
          have r1:=hv.keep _ _ _ r1
          have r2:=hv.keep _ _ _ r2
          have r3:=hv.keep _ _ _ r3
          have r4:=hv.keep _ _ _ r4
          have r5:=hv.keep _ _ _ r5
          have g70:=hv.keep _ _ _ g70
          have g71:=hv.keep _ _ _ g71
          have HW:=Lib.hid (HW.out.trans hv)
          have bk26l:p1<uc1_24.heap.size∧p2<uc1_24.heap.size∧w.heap.size+1<uc1_24.heap.size:=⟨HP1,HP2,hr_⟩
          have HP1_:p1<ua26.heap.size:=Nat.lt_of_lt_of_le HP1 hv.size
          have HP2_:p2<ua26.heap.size:=Nat.lt_of_lt_of_le HP2 hv.size
          clear HP1 HP2 hv hua26 hr_
          have HP1:=HP1_
          have HP2:=HP2_
          clear HP1_ HP2_
          have bk26n:bk23<uc1_24.heap.size:=by assumption
          clear HBg7
          have HBg8:uc1_24.heap.size<ua26.heap.size:=World.block_lt_of_cell? _ _ g80
          have HBg7:bk23<ua26.heap.size:=World.block_lt_of_cell? _ _ g70
          generalize uc1_24.heap.size=bk26 at *
          have z0_:=HW.out.ownGe (g:=bk23) (by omega) 0
          have z1_:=HW.out.ownGe (g:=bk23) (by omega) 1
          refine wpAnyH_ready (rs:=[6]) (by kernel_rfl) (by simp) ?_
          refine AllReadyH.cons (o:=⟨_,_,_,_,_,_⟩) rfl (fun K hK=>?_) (AllReadyH.nil)
          go_simp
          refine hK.out _ _ ?hB36 (fun hHeld=>?_)
          case hB36=>(with_reducible exact set2K14 hHeld (by omega) (by omega) (by omega))
          clear hK K
          (try simp only [Act.put,stpA,stpB,stpC])
          obtain ⟨va27,hva27⟩:∃ z,z=(ua26.setCell ⟨bk23,0,none⟩ (.int .i64 x0)).setCell ⟨bk23,1,none⟩ (.int .i64 x1):=⟨_,rfl⟩
          rw [← hva27] at hHeld ⊢
          obtain ⟨t0_,t1_⟩:=cellsP2 (w:=ua26) (p:=bk23) (v0:=.int .i64 x0) (v1:=.int .i64 x1) g70 g71
          rw [← hva27] at t0_ t1_
          have r0:va27.cell? ⟨w.heap.size+1,0,none⟩=some (.int .i64 0):=by rw [hva27];exact farP2 r0 (by omega)
          have r1:va27.cell? ⟨w.heap.size+1,1,none⟩=some (.int .i64 0):=by rw [hva27];exact farP2 r1 (by omega)
          have r2:va27.cell? ⟨w.heap.size+1,2,none⟩=some (.int .i64 0):=by rw [hva27];exact farP2 r2 (by omega)
          have r3:va27.cell? ⟨w.heap.size+1,3,none⟩=some (.int .i64 0):=by rw [hva27];exact farP2 r3 (by omega)
          have r4:va27.cell? ⟨w.heap.size+1,4,none⟩=some (.int .i64 0):=by rw [hva27];exact farP2 r4 (by omega)
          have r5:va27.cell? ⟨w.heap.size+1,5,none⟩=some (.int .i64 0):=by rw [hva27];exact farP2 r5 (by omega)
          have g80:va27.cell? ⟨bk26,0,none⟩=some (.int .i64 0):=by rw [hva27];exact farP2 g80 (by omega)
          have g81:va27.cell? ⟨bk26,1,none⟩=some (.int .i64 0):=by rw [hva27];exact farP2 g81 (by omega)
          have HW:=Lib.hid (show Up w va27 by rw [hva27];exact HW.out.setP2 (by omega))
          clear hva27 z0_ z1_ g70 g71
          have g70:=t0_
          have g71:=t1_
          clear t0_ t1_
          have z0_:=HW.out.ownGe (g:=bk26) (by omega) 0
          have z1_:=HW.out.ownGe (g:=bk26) (by omega) 1
          refine wpAnyH_ready (rs:=[7]) (by kernel_rfl) (by simp) ?_
          refine AllReadyH.cons (o:=⟨_,_,_,_,_,_⟩) rfl (fun K hK=>?_) (AllReadyH.nil)
          go_simp
          refine hK.out _ _ ?hB37 (fun hHeld=>?_)
          case hB37=>(with_reducible exact set2K14 hHeld (by omega) (by omega) (by omega))
          clear hK K
          (try simp only [Act.put,stpA,stpB,stpC])
          obtain ⟨vb27,hvb27⟩:∃ z,z=(va27.setCell ⟨bk26,0,none⟩ (.int .i64 y0)).setCell ⟨bk26,1,none⟩ (.int .i64 y1):=⟨_,rfl⟩
          rw [← hvb27] at hHeld ⊢
          obtain ⟨t0_,t1_⟩:=cellsP2 (w:=va27) (p:=bk26) (v0:=.int .i64 y0) (v1:=.int .i64 y1) g80 g81
          rw [← hvb27] at t0_ t1_
          have r0:vb27.cell? ⟨w.heap.size+1,0,none⟩=some (.int .i64 0):=by rw [hvb27];exact farP2 r0 (by omega)
          have r1:vb27.cell? ⟨w.heap.size+1,1,none⟩=some (.int .i64 0):=by rw [hvb27];exact farP2 r1 (by omega)
          have r2:vb27.cell? ⟨w.heap.size+1,2,none⟩=some (.int .i64 0):=by rw [hvb27];exact farP2 r2 (by omega)
          have r3:vb27.cell? ⟨w.heap.size+1,3,none⟩=some (.int .i64 0):=by rw [hvb27];exact farP2 r3 (by omega)
          have r4:vb27.cell? ⟨w.heap.size+1,4,none⟩=some (.int .i64 0):=by rw [hvb27];exact farP2 r4 (by omega)
          have r5:vb27.cell? ⟨w.heap.size+1,5,none⟩=some (.int .i64 0):=by rw [hvb27];exact farP2 r5 (by omega)
          have g70:vb27.cell? ⟨bk23,0,none⟩=some (.int .i64 x0):=by rw [hvb27];exact farP2 g70 (by omega)
          have g71:vb27.cell? ⟨bk23,1,none⟩=some (.int .i64 x1):=by rw [hvb27];exact farP2 g71 (by omega)
          have HW:=Lib.hid (show Up w vb27 by rw [hvb27];exact HW.out.setP2 (by omega))
          clear hvb27 z0_ z1_ g80 g81
          have g80:=t0_
          have g81:=t1_
          clear t0_ t1_
          refine wpAnyH_done (by kernel_rfl) ?_ _
          clear hHeld
          go_wp2_with fail
          go_meet
          exact ⟨bk23,bk26,rfl,rfl,Lib.hid ⟨HW.out,g70,g71,g80,g81,r0,r1,r2,r3,r4,r5⟩⟩
        · go_simp
          refine hK.out _ _ ?hB38 (fun hHeld=>?_)
          case hB38=>(with_reducible exact keepK14 (Lib.hid ((Up.refl _).alloc _ _)) hHeld)
          clear hK K
          (try simp only [Act.put,stpA,stpB,stpC])
          obtain ⟨ua28,hua28⟩:∃ z,z=uc0_23.alloc (.cells #[.int .i64 0,.int .i64 0] 31):=⟨_,rfl⟩
          rw [← hua28] at hHeld ⊢
          have hv:Up uc0_23 ua28:=by rw [hua28];exact (Up.refl _).alloc _ _
          have g80:ua28.cell? ⟨uc0_23.heap.size,0,none⟩=some (.int .i64 0):=by rw [hua28];simp [go_sem]
          have g81:ua28.cell? ⟨uc0_23.heap.size,1,none⟩=some (.int .i64 0):=by rw [hua28];simp [go_sem]
          have hr_:=World.block_lt_of_cell? _ _ r0
          skip
          have r0:=hv.keep _ _ _ r0
          have r1:=hv.keep _ _ _ r1
          have r2:=hv.keep _ _ _ r2
          have r3:=hv.keep _ _ _ r3
          have r4:=hv.keep _ _ _ r4
          have r5:=hv.keep _ _ _ r5
          have g70:=hv.keep _ _ _ g70
          have g71:=hv.keep _ _ _ g71
          have HW:=Lib.hid (HW.out.trans hv)
          have bk28l:p1<uc0_23.heap.size∧p2<uc0_23.heap.size∧w.heap.size+1<uc0_23.heap.size:=⟨HP1,HP2,hr_⟩
          have HP1_:p1<ua28.heap.size:=Nat.lt_of_lt_of_le HP1 hv.size
          have HP2_:p2<ua28.heap.size:=Nat.lt_of_lt_of_le HP2 hv.size
          clear HP1 HP2 hv hua28 hr_
          have HP1:=HP1_
          have HP2:=HP2_
          clear HP1_ HP2_
          have bk28n:bk23<uc0_23.heap.size:=by assumption
          clear HBg7
          have HBg8:uc0_23.heap.size<ua28.heap.size:=World.block_lt_of_cell? _ _ g80
          have HBg7:bk23<ua28.heap.size:=World.block_lt_of_cell? _ _ g70
          generalize uc0_23.heap.size=bk28 at *
          refine wpAnyH_ready (rs:=[3]) (by kernel_rfl) (by simp) ?_
          refine AllReadyH.cons (o:=⟨_,_,_,_,_,_⟩) rfl (fun K hK=>?_) (AllReadyH.nil)
          go_simp
          (go_at_call 37;(with_reducible refine (K2.out _).mono ?_);rintro e uc1_28 ⟨rfl,hu⟩;have HW:=Lib.hid (HW.out.trans hu);have HX:=Lib.hid (keepK14 (Lib.hid hu) hHeld);have r0:=hu.keep _ _ _ r0;have r1:=hu.keep _ _ _ r1;have r2:=hu.keep _ _ _ r2;have r3:=hu.keep _ _ _ r3;have r4:=hu.keep _ _ _ r4;have r5:=hu.keep _ _ _ r5;have g70:=hu.keep _ _ _ g70;have g71:=hu.keep _ _ _ g71;have g80:=hu.keep _ _ _ g80;have g81:=hu.keep _ _ _ g81;have HP1:p1<uc1_28.heap.size:=Nat.lt_of_lt_of_le HP1 hu.size;have HP2:p2<uc1_28.heap.size:=Nat.lt_of_lt_of_le HP2 hu.size;have HBg7:bk23<uc1_28.heap.size:=World.block_lt_of_cell? _ _ g70;have HBg8:bk28<uc1_28.heap.size:=World.block_lt_of_cell? _ _ g80;clear hu)
          (try go_wp2_with fail)
          refine hK.out _ _ ?hB39 (fun hHeld=>?_)
          case hB39=>(with_reducible exact HX.out)
          clear hK K
          (try simp only [Act.put,stpA,stpB,stpC])
          have z0_:=HW.out.ownGe (g:=bk23) (by omega) 0
          have z1_:=HW.out.ownGe (g:=bk23) (by omega) 1
          refine wpAnyH_ready (rs:=[6]) (by kernel_rfl) (by simp) ?_
          refine AllReadyH.cons (o:=⟨_,_,_,_,_,_⟩) rfl (fun K hK=>?_) (AllReadyH.nil)
          go_simp
          refine hK.out _ _ ?hB40 (fun hHeld=>?_)
          case hB40=>(with_reducible exact set2K14 hHeld (by omega) (by omega) (by omega))
          clear hK K
          (try simp only [Act.put,stpA,stpB,stpC])
          obtain ⟨va30,hva30⟩:∃ z,z=(uc1_28.setCell ⟨bk23,0,none⟩ (.int .i64 x0)).setCell ⟨bk23,1,none⟩ (.int .i64 x1):=⟨_,rfl⟩
          rw [← hva30] at hHeld ⊢
          obtain ⟨t0_,t1_⟩:=cellsP2 (w:=uc1_28) (p:=bk23) (v0:=.int .i64 x0) (v1:=.int .i64 x1) g70 g71
          rw [← hva30] at t0_ t1_
          have r0:va30.cell? ⟨w.heap.size+1,0,none⟩=some (.int .i64 0):=by rw [hva30];exact farP2 r0 (by omega)
          have r1:va30.cell? ⟨w.heap.size+1,1,none⟩=some (.int .i64 0):=by rw [hva30];exact farP2 r1 (by omega)
          have r2:va30.cell? ⟨w.heap.size+1,2,none⟩=some (.int .i64 0):=by rw [hva30];exact farP2 r2 (by omega)
          have r3:va30.cell? ⟨w.heap.size+1,3,none⟩=some (.int .i64 0):=by rw [hva30];exact farP2 r3 (by omega)
          have r4:va30.cell? ⟨w.heap.size+1,4,none⟩=some (.int .i64 0):=by rw [hva30];exact farP2 r4 (by omega)
          have r5:va30.cell? ⟨w.heap.size+1,5,none⟩=some (.int .i64 0):=by rw [hva30];exact farP2 r5 (by omega)
          have g80:va30.cell? ⟨bk28,0,none⟩=some (.int .i64 0):=by rw [hva30];exact farP2 g80 (by omega)
          have g81:va30.cell? ⟨bk28,1,none⟩=some (.int .i64 0):=by rw [hva30];exact farP2 g81 (by omega)
          have HW:=Lib.hid (show Up w va30 by rw [hva30];exact HW.out.setP2 (by omega))
          clear hva30 z0_ z1_ g70 g71
          have g70:=t0_
          have g71:=t1_
          clear t0_ t1_
          have z0_:=HW.out.ownGe (g:=bk28) (by omega) 0
          have z1_:=HW.out.ownGe (g:=bk28) (by omega) 1
          refine wpAnyH_ready (rs:=[7]) (by kernel_rfl) (by simp) ?_
          refine AllReadyH.cons (o:=⟨_,_,_,_,_,_⟩) rfl (fun K hK=>?_) (AllReadyH.nil)
          go_simp
          refine hK.out _ _ ?hB41 (fun hHeld=>?_)
          case hB41=>(with_reducible exact set2K14 hHeld (by omega) (by omega) (by omega))
          clear hK K
          (try simp only [Act.put,stpA,stpB,stpC])
          obtain ⟨vb30,hvb30⟩:∃ z,z=(va30.setCell ⟨bk28,0,none⟩ (.int .i64 y0)).setCell ⟨bk28,1,none⟩ (.int .i64 y1):=⟨_,rfl⟩
          rw [← hvb30] at hHeld ⊢
          obtain ⟨t0_,t1_⟩:=cellsP2 (w:=va30) (p:=bk28) (v0:=.int .i64 y0) (v1:=.int .i64 y1) g80 g81
          rw [← hvb30] at t0_ t1_
          have r0:vb30.cell? ⟨w.heap.size+1,0,none⟩=some (.int .i64 0):=by rw [hvb30];exact farP2 r0 (by omega)
          have r1:vb30.cell? ⟨w.heap.size+1,1,none⟩=some (.int .i64 0):=by rw [hvb30];exact farP2 r1 (by omega)
          have r2:vb30.cell? ⟨w.heap.size+1,2,none⟩=some (.int .i64 0):=by rw [hvb30];exact farP2 r2 (by omega)
          have r3:vb30.cell? ⟨w.heap.size+1,3,none⟩=some (.int .i64 0):=by rw [hvb30];exact farP2 r3 (by omega)
          have r4:vb30.cell? ⟨w.heap.size+1,4,none⟩=some (.int .i64 0):=by rw [hvb30];exact farP2 r4 (by omega)
          have r5:vb30.cell? ⟨w.heap.size+1,5,none⟩=some (.int .i64 0):=by rw [hvb30];exact farP2 r5 (by omega)
          have g70:vb30.cell? ⟨bk23,0,none⟩=some (.int .i64 x0):=by rw [hvb30];exact farP2 g70 (by omega)
          have g71:vb30.cell? ⟨bk23,1,none⟩=some (.int .i64 x1):=by rw [hvb30];exact farP2 g71 (by omega)
          have HW:=Lib.hid (show Up w vb30 by rw [hvb30];exact HW.out.setP2 (by omega))
          clear hvb30 z0_ z1_ g80 g81
          have g80:=t0_
          have g81:=t1_
          clear t0_ t1_
          refine wpAnyH_done (by kernel_rfl) ?_ _
          clear hHeld
          go_wp2_with fail
          go_meet
          exact ⟨bk23,bk28,rfl,rfl,Lib.hid ⟨HW.out,g70,g71,g80,g81,r0,r1,r2,r3,r4,r5⟩⟩
      · go_simp
        refine hK.out _ _ ?hB42 (fun hHeld=>?_)
        case hB42=>(with_reducible exact keepK14 (Lib.hid ((Up.refl _).alloc _ _)) hHeld)
        clear hK K
        (try simp only [Act.put,stpA,stpB,stpC])
        obtain ⟨ua31,hua31⟩:∃ z,z=ua23.alloc (.cells #[.int .i64 0,.int .i64 0] 31):=⟨_,rfl⟩
        rw [← hua31] at hHeld ⊢
        have hv:Up ua23 ua31:=by rw [hua31];exact (Up.refl _).alloc _ _
        have g80:ua31.cell? ⟨ua23.heap.size,0,none⟩=some (.int .i64 0):=by rw [hua31];simp [go_sem]
        have g81:ua31.cell? ⟨ua23.heap.size,1,none⟩=some (.int .i64 0):=by rw [hua31];simp [go_sem]
        have hr_:=World.block_lt_of_cell? _ _ r0
        skip
        have r0:=hv.keep _ _ _ r0
        have r1:=hv.keep _ _ _ r1
        have r2:=hv.keep _ _ _ r2
        have r3:=hv.keep _ _ _ r3
        have r4:=hv.keep _ _ _ r4
        have r5:=hv.keep _ _ _ r5
        have g70:=hv.keep _ _ _ g70
        have g71:=hv.keep _ _ _ g71
        have HW:=Lib.hid (HW.out.trans hv)
        have bk31l:p1<ua23.heap.size∧p2<ua23.heap.size∧w.heap.size+1<ua23.heap.size:=⟨HP1,HP2,hr_⟩
        have HP1_:p1<ua31.heap.size:=Nat.lt_of_lt_of_le HP1 hv.size
        have HP2_:p2<ua31.heap.size:=Nat.lt_of_lt_of_le HP2 hv.size
        clear HP1 HP2 hv hua31 hr_
        have HP1:=HP1_
        have HP2:=HP2_
        clear HP1_ HP2_
        have bk31n:bk23<ua23.heap.size:=by assumption
        clear HBg7
        have HBg8:ua23.heap.size<ua31.heap.size:=World.block_lt_of_cell? _ _ g80
        have HBg7:bk23<ua31.heap.size:=World.block_lt_of_cell? _ _ g70
        generalize ua23.heap.size=bk31 at *
        refine wpAnyH_ready (rs:=[1]) (by kernel_rfl) (by simp) ?_
        refine AllReadyH.cons (o:=⟨_,_,_,_,_,_⟩) rfl (fun K hK=>?_) (AllReadyH.nil)
        go_simp
        (go_at_call 37;(with_reducible refine (K1.out _).mono ?_);rintro e uc0_31 ⟨rfl,hu⟩;have HW:=Lib.hid (HW.out.trans hu);have HX:=Lib.hid (keepK14 (Lib.hid hu) hHeld);have r0:=hu.keep _ _ _ r0;have r1:=hu.keep _ _ _ r1;have r2:=hu.keep _ _ _ r2;have r3:=hu.keep _ _ _ r3;have r4:=hu.keep _ _ _ r4;have r5:=hu.keep _ _ _ r5;have g70:=hu.keep _ _ _ g70;have g71:=hu.keep _ _ _ g71;have g80:=hu.keep _ _ _ g80;have g81:=hu.keep _ _ _ g81;have HP1:p1<uc0_31.heap.size:=Nat.lt_of_lt_of_le HP1 hu.size;have HP2:p2<uc0_31.heap.size:=Nat.lt_of_lt_of_le HP2 hu.size;have HBg7:bk23<uc0_31.heap.size:=World.block_lt_of_cell? _ _ g70;have HBg8:bk31<uc0_31.heap.size:=World.block_lt_of_cell? _ _ g80;clear hu)
        (try go_wp2_with fail)
        refine hK.out _ _ ?hB43 (fun hHeld=>?_)
        case hB43=>(with_reducible exact HX.out)
        clear hK K
        (try simp only [Act.put,stpA,stpB,stpC])
        refine wpAnyH_ready (rs:=[3]) (by kernel_rfl) (by simp) ?_
        refine AllReadyH.cons (o:=⟨_,_,_,_,_,_⟩) rfl (fun K hK=>?_) (AllReadyH.nil)
        go_simp
        (go_at_call 37;(with_reducible refine (K2.out _).mono ?_);rintro e uc1_32 ⟨rfl,hu⟩;have HW:=Lib.hid (HW.out.trans hu);have HX:=Lib.hid (keepK14 (Lib.hid hu) hHeld);have r0:=hu.keep _ _ _ r0;have r1:=hu.keep _ _ _ r1;have r2:=hu.keep _ _ _ r2;have r3:=hu.keep _ _ _ r3;have r4:=hu.keep _ _ _ r4;have r5:=hu.keep _ _ _ r5;have g70:=hu.keep _ _ _ g70;have g71:=hu.keep _ _ _ g71;have g80:=hu.keep _ _ _ g80;have g81:=hu.keep _ _ _ g81;have HP1:p1<uc1_32.heap.size:=Nat.lt_of_lt_of_le HP1 hu.size;have HP2:p2<uc1_32.heap.size:=Nat.lt_of_lt_of_le HP2 hu.size;have HBg7:bk23<uc1_32.heap.size:=World.block_lt_of_cell? _ _ g70;have HBg8:bk31<uc1_32.heap.size:=World.block_lt_of_cell? _ _ g80;clear hu)
        (try go_wp2_with fail)
        refine hK.out _ _ ?hB44 (fun hHeld=>?_)
        case hB44=>(with_reducible exact HX.out)
        clear hK K
        (try simp only [Act.put,stpA,stpB,stpC])
        have z0_:=HW.out.ownGe (g:=bk23) (by omega) 0
        have z1_:=HW.out.ownGe (g:=bk23) (by omega) 1
        refine wpAnyH_ready (rs:=[6]) (by kernel_rfl) (by simp) ?_
        refine AllReadyH.cons (o:=⟨_,_,_,_,_,_⟩) rfl (fun K hK=>?_) (AllReadyH.nil)
        go_simp
        refine hK.out _ _ ?hB45 (fun hHeld=>?_)
        case hB45=>(with_reducible exact set2K14 hHeld (by omega) (by omega) (by omega))
        clear hK K
        (try simp only [Act.put,stpA,stpB,stpC])
        obtain ⟨va34,hva34⟩:∃ z,z=(uc1_32.setCell ⟨bk23,0,none⟩ (.int .i64 x0)).setCell ⟨bk23,1,none⟩ (.int .i64 x1):=⟨_,rfl⟩
        rw [← hva34] at hHeld ⊢
        obtain ⟨t0_,t1_⟩:=cellsP2 (w:=uc1_32) (p:=bk23) (v0:=.int .i64 x0) (v1:=.int .i64 x1) g70 g71
        rw [← hva34] at t0_ t1_
        have r0:va34.cell? ⟨w.heap.size+1,0,none⟩=some (.int .i64 0):=by rw [hva34];exact farP2 r0 (by omega)
        have r1:va34.cell? ⟨w.heap.size+1,1,none⟩=some (.int .i64 0):=by rw [hva34];exact farP2 r1 (by omega)
        have r2:va34.cell? ⟨w.heap.size+1,2,none⟩=some (.int .i64 0):=by rw [hva34];exact farP2 r2 (by omega)
        have r3:va34.cell? ⟨w.heap.size+1,3,none⟩=some (.int .i64 0):=by rw [hva34];exact farP2 r3 (by omega)
        have r4:va34.cell? ⟨w.heap.size+1,4,none⟩=some (.int .i64 0):=by rw [hva34];exact farP2 r4 (by omega)
        have r5:va34.cell? ⟨w.heap.size+1,5,none⟩=some (.int .i64 0):=by rw [hva34];exact farP2 r5 (by omega)
        have g80:va34.cell? ⟨bk31,0,none⟩=some (.int .i64 0):=by rw [hva34];exact farP2 g80 (by omega)
        have g81:va34.cell? ⟨bk31,1,none⟩=some (.int .i64 0):=by rw [hva34];exact farP2 g81 (by omega)
        have HW:=Lib.hid (show Up w va34 by rw [hva34];exact HW.out.setP2 (by omega))
        clear hva34 z0_ z1_ g70 g71
        have g70:=t0_
        have g71:=t1_
        clear t0_ t1_
        have z0_:=HW.out.ownGe (g:=bk31) (by omega) 0
        have z1_:=HW.out.ownGe (g:=bk31) (by omega) 1
        refine wpAnyH_ready (rs:=[7]) (by kernel_rfl) (by simp) ?_
        refine AllReadyH.cons (o:=⟨_,_,_,_,_,_⟩) rfl (fun K hK=>?_) (AllReadyH.nil)
        go_simp
        refine hK.out _ _ ?hB46 (fun hHeld=>?_)
        case hB46=>(with_reducible exact set2K14 hHeld (by omega) (by omega) (by omega))
        clear hK K
        (try simp only [Act.put,stpA,stpB,stpC])
        obtain ⟨vb34,hvb34⟩:∃ z,z=(va34.setCell ⟨bk31,0,none⟩ (.int .i64 y0)).setCell ⟨bk31,1,none⟩ (.int .i64 y1):=⟨_,rfl⟩
        rw [← hvb34] at hHeld ⊢
        obtain ⟨t0_,t1_⟩:=cellsP2 (w:=va34) (p:=bk31) (v0:=.int .i64 y0) (v1:=.int .i64 y1) g80 g81
        rw [← hvb34] at t0_ t1_
        have r0:vb34.cell? ⟨w.heap.size+1,0,none⟩=some (.int .i64 0):=by rw [hvb34];exact farP2 r0 (by omega)
        have r1:vb34.cell? ⟨w.heap.size+1,1,none⟩=some (.int .i64 0):=by rw [hvb34];exact farP2 r1 (by omega)
        have r2:vb34.cell? ⟨w.heap.size+1,2,none⟩=some (.int .i64 0):=by rw [hvb34];exact farP2 r2 (by omega)
        have r3:vb34.cell? ⟨w.heap.size+1,3,none⟩=some (.int .i64 0):=by rw [hvb34];exact farP2 r3 (by omega)
        have r4:vb34.cell? ⟨w.heap.size+1,4,none⟩=some (.int .i64 0):=by rw [hvb34];exact farP2 r4 (by omega)
        have r5:vb34.cell? ⟨w.heap.size+1,5,none⟩=some (.int .i64 0):=by rw [hvb34];exact farP2 r5 (by omega)
        have g70:vb34.cell? ⟨bk23,0,none⟩=some (.int .i64 x0):=by rw [hvb34];exact farP2 g70 (by omega)
        have g71:vb34.cell? ⟨bk23,1,none⟩=some (.int .i64 x1):=by rw [hvb34];exact farP2 g71 (by omega)
        have HW:=Lib.hid (show Up w vb34 by rw [hvb34];exact HW.out.setP2 (by omega))
        clear hvb34 z0_ z1_ g80 g81
        have g80:=t0_
        have g81:=t1_
        clear t0_ t1_
        refine wpAnyH_done (by kernel_rfl) ?_ _
        clear hHeld
        go_wp2_with fail
        go_meet
        exact ⟨bk23,bk31,rfl,rfl,Lib.hid ⟨HW.out,g70,g71,g80,g81,r0,r1,r2,r3,r4,r5⟩⟩
    · go_simp
      refine hK.out _ _ ?hB47 (fun hHeld=>?_)
      case hB47=>(with_reducible exact keepK14 (Lib.hid ((Up.refl _).alloc _ _)) hHeld)
      clear hK K
      (try simp only [Act.put,stpA,stpB,stpC])
      obtain ⟨ua35,hua35⟩:∃ z,z=u0.alloc (.cells #[.int .i64 0,.int .i64 0] 31):=⟨_,rfl⟩
      rw [← hua35] at hHeld ⊢
      have hv:Up u0 ua35:=by rw [hua35];exact (Up.refl _).alloc _ _
      have g80:ua35.cell? ⟨u0.heap.size,0,none⟩=some (.int .i64 0):=by rw [hua35];simp [go_sem]
      have g81:ua35.cell? ⟨u0.heap.size,1,none⟩=some (.int .i64 0):=by rw [hua35];simp [go_sem]
      have hr_:=World.block_lt_of_cell? _ _ r0
      skip
      have r0:=hv.keep _ _ _ r0
      have r1:=hv.keep _ _ _ r1
      have r2:=hv.keep _ _ _ r2
      have r3:=hv.keep _ _ _ r3
      have r4:=hv.keep _ _ _ r4
      have r5:=hv.keep _ _ _ r5
      have HW:=Lib.hid (HW.out.trans hv)
      have bk35l:p1<u0.heap.size∧p2<u0.heap.size∧w.heap.size+1<u0.heap.size:=⟨HP1,HP2,hr_⟩
      have HP1_:p1<ua35.heap.size:=Nat.lt_of_lt_of_le HP1 hv.size
      have HP2_:p2<ua35.heap.size:=Nat.lt_of_lt_of_le HP2 hv.size
      clear HP1 HP2 hv hua35 hr_
      have HP1:=HP1_
      have HP2:=HP2_
      clear HP1_ HP2_
      have HBg8:u0.heap.size<ua35.heap.size:=World.block_lt_of_cell? _ _ g80
      generalize u0.heap.size=bk35 at *
      refine wpAnyH_ready (rs:=[1,4]) (by kernel_rfl) (by simp) ?_
      refine AllReadyH.cons (o:=⟨_,_,_,_,_,_⟩) rfl (fun K hK=>?_) (AllReadyH.cons (o:=⟨_,_,_,_,_,_⟩) rfl (fun K hK=>?_) (AllReadyH.nil))
      · go_simp
        (go_at_call 37;(with_reducible refine (K1.out _).mono ?_);rintro e uc0_35 ⟨rfl,hu⟩;have HW:=Lib.hid (HW.out.trans hu);have HX:=Lib.hid (keepK14 (Lib.hid hu) hHeld);have r0:=hu.keep _ _ _ r0;have r1:=hu.keep _ _ _ r1;have r2:=hu.keep _ _ _ r2;have r3:=hu.keep _ _ _ r3;have r4:=hu.keep _ _ _ r4;have r5:=hu.keep _ _ _ r5;have g80:=hu.keep _ _ _ g80;have g81:=hu.keep _ _ _ g81;have HP1:p1<uc0_35.heap.size:=Nat.lt_of_lt_of_le HP1 hu.size;have HP2:p2<uc0_35.heap.size:=Nat.lt_of_lt_of_le HP2 hu.size;have HBg8:bk35<uc0_35.heap.size:=World.block_lt_of_cell? _ _ g80;clear hu)
        (try go_wp2_with fail)
        refine hK.out _ _ ?hB48 (fun hHeld=>?_)
        case hB48=>(with_reducible exact HX.out)
        clear hK K
        (try simp only [Act.put,stpA,stpB,stpC])
        refine wpAnyH_ready (rs:=[3,4]) (by kernel_rfl) (by simp) ?_
        refine AllReadyH.cons (o:=⟨_,_,_,_,_,_⟩) rfl (fun K hK=>?_) (AllReadyH.cons (o:=⟨_,_,_,_,_,_⟩) rfl (fun K hK=>?_) (AllReadyH.nil))
        · go_simp
          (go_at_call 37;(with_reducible refine (K2.out _).mono ?_);rintro e uc1_36 ⟨rfl,hu⟩;have HW:=Lib.hid (HW.out.trans hu);have HX:=Lib.hid (keepK14 (Lib.hid hu) hHeld);have r0:=hu.keep _ _ _ r0;have r1:=hu.keep _ _ _ r1;have r2:=hu.keep _ _ _ r2;have r3:=hu.keep _ _ _ r3;have r4:=hu.keep _ _ _ r4;have r5:=hu.keep _ _ _ r5;have g80:=hu.keep _ _ _ g80;have g81:=hu.keep _ _ _ g81;have HP1:p1<uc1_36.heap.size:=Nat.lt_of_lt_of_le HP1 hu.size;have HP2:p2<uc1_36.heap.size:=Nat.lt_of_lt_of_le HP2 hu.size;have HBg8:bk35<uc1_36.heap.size:=World.block_lt_of_cell? _ _ g80;clear hu)
          (try go_wp2_with fail)
          refine hK.out _ _ ?hB49 (fun hHeld=>?_)
          case hB49=>(with_reducible exact HX.out)
          clear hK K
          (try simp only [Act.put,stpA,stpB,stpC])
          refine wpAnyH_ready (rs:=[4]) (by kernel_rfl) (by simp) ?_
          refine AllReadyH.cons (o:=⟨_,_,_,_,_,_⟩) rfl (fun K hK=>?_) (AllReadyH.nil)
          go_simp
          refine hK.out _ _ ?hB50 (fun hHeld=>?_)
          case hB50=>(with_reducible exact keepK14 (Lib.hid ((Up.refl _).alloc _ _)) hHeld)
          clear hK K
          (try simp only [Act.put,stpA,stpB,stpC])
          obtain ⟨ua38,hua38⟩:∃ z,z=uc1_36.alloc (.cells #[.int .i64 0,.int .i64 0] 31):=⟨_,rfl⟩
          rw [← hua38] at hHeld ⊢
          have hv:Up uc1_36 ua38:=by rw [hua38];exact (Up.refl _).alloc _ _
          have g70:ua38.cell? ⟨uc1_36.heap.size,0,none⟩=some (.int .i64 0):=by rw [hua38];simp [go_sem]
          have g71:ua38.cell? ⟨uc1_36.heap.size,1,none⟩=some (.int .i64 0):=by rw [hua38];simp [go_sem]
          have hr_:=World.block_lt_of_cell? _ _ r0
          skip
          have r0:=hv.keep _ _ _ r0
          have r1:=hv.keep _ _ _ r1
          have r2:=hv.keep _ _ _ r2
          have r3:=hv.keep _ _ _ r3
          have r4:=hv.keep _ _ _ r4
          have r5:=hv.keep _ _ _ r5
          have g80:=hv.keep _ _ _ g80
          have g81:=hv.keep _ _ _ g81
          have HW:=Lib.hid (HW.out.trans hv)
          have bk38l:p1<uc1_36.heap.size∧p2<uc1_36.heap.size∧w.heap.size+1<uc1_36.heap.size:=⟨HP1,HP2,hr_⟩
          have HP1_:p1<ua38.heap.size:=Nat.lt_of_lt_of_le HP1 hv.size
          have HP2_:p2<ua38.heap.size:=Nat.lt_of_lt_of_le HP2 hv.size
          clear HP1 HP2 hv hua38 hr_
          have HP1:=HP1_
          have HP2:=HP2_
          clear HP1_ HP2_
          have bk38n:bk35<uc1_36.heap.size:=by assumption
          clear HBg8
          have HBg7:uc1_36.heap.size<ua38.heap.size:=World.block_lt_of_cell? _ _ g70
          have HBg8:bk35<ua38.heap.size:=World.block_lt_of_cell? _ _ g80
          generalize uc1_36.heap.size=bk38 at *
          have z0_:=HW.out.ownGe (g:=bk38) (by omega) 0
          have z1_:=HW.out.ownGe (g:=bk38) (by omega) 1
          refine wpAnyH_ready (rs:=[6]) (by kernel_rfl) (by simp) ?_
          refine AllReadyH.cons (o:=⟨_,_,_,_,_,_⟩) rfl (fun K hK=>?_) (AllReadyH.nil)
          go_simp
          refine hK.out _ _ ?hB51 (fun hHeld=>?_)
          case hB51=>(with_reducible exact set2K14 hHeld (by omega) (by omega) (by omega))
          clear hK K
          (try simp only [Act.put,stpA,stpB,stpC])
          obtain ⟨va39,hva39⟩:∃ z,z=(ua38.setCell ⟨bk38,0,none⟩ (.int .i64 x0)).setCell ⟨bk38,1,none⟩ (.int .i64 x1):=⟨_,rfl⟩
          rw [← hva39] at hHeld ⊢
          obtain ⟨t0_,t1_⟩:=cellsP2 (w:=ua38) (p:=bk38) (v0:=.int .i64 x0) (v1:=.int .i64 x1) g70 g71
          rw [← hva39] at t0_ t1_
          have r0:va39.cell? ⟨w.heap.size+1,0,none⟩=some (.int .i64 0):=by rw [hva39];exact farP2 r0 (by omega)
          have r1:va39.cell? ⟨w.heap.size+1,1,none⟩=some (.int .i64 0):=by rw [hva39];exact farP2 r1 (by omega)
          have r2:va39.cell? ⟨w.heap.size+1,2,none⟩=some (.int .i64 0):=by rw [hva39];exact farP2 r2 (by omega)
          have r3:va39.cell? ⟨w.heap.size+1,3,none⟩=some (.int .i64 0):=by rw [hva39];exact farP2 r3 (by omega)
          have r4:va39.cell? ⟨w.heap.size+1,4,none⟩=some (.int .i64 0):=by rw [hva39];exact farP2 r4 (by omega)
          have r5:va39.cell? ⟨w.heap.size+1,5,none⟩=some (.int .i64 0):=by rw [hva39];exact farP2 r5 (by omega)
          have g80:va39.cell? ⟨bk35,0,none⟩=some (.int .i64 0):=by rw [hva39];exact farP2 g80 (by omega)
          have g81:va39.cell? ⟨bk35,1,none⟩=some (.int .i64 0):=by rw [hva39];exact farP2 g81 (by omega)
          have HW:=Lib.hid (show Up w va39 by rw [hva39];exact HW.out.setP2 (by omega))
          clear hva39 z0_ z1_ g70 g71
          have g70:=t0_
          have g71:=t1_
          clear t0_ t1_
          have z0_:=HW.out.ownGe (g:=bk35) (by omega) 0
          have z1_:=HW.out.ownGe (g:=bk35) (by omega) 1
          refine wpAnyH_ready (rs:=[7]) (by kernel_rfl) (by simp) ?_
          refine AllReadyH.cons (o:=⟨_,_,_,_,_,_⟩) rfl (fun K hK=>?_) (AllReadyH.nil)
          go_simp
          refine hK.out _ _ ?hB52 (fun hHeld=>?_)
          case hB52=>(with_reducible exact set2K14 hHeld (by omega) (by omega) (by omega))
          clear hK K
          (try simp only [Act.put,stpA,stpB,stpC])
          obtain ⟨vb39,hvb39⟩:∃ z,z=(va39.setCell ⟨bk35,0,none⟩ (.int .i64 y0)).setCell ⟨bk35,1,none⟩ (.int .i64 y1):=⟨_,rfl⟩
          rw [← hvb39] at hHeld ⊢
          obtain ⟨t0_,t1_⟩:=cellsP2 (w:=va39) (p:=bk35) (v0:=.int .i64 y0) (v1:=.int .i64 y1) g80 g81
          rw [← hvb39] at t0_ t1_
          have r0:vb39.cell? ⟨w.heap.size+1,0,none⟩=some (.int .i64 0):=by rw [hvb39];exact farP2 r0 (by omega)
          have r1:vb39.cell? ⟨w.heap.size+1,1,none⟩=some (.int .i64 0):=by rw [hvb39];exact farP2 r1 (by omega)
          have r2:vb39.cell? ⟨w.heap.size+1,2,none⟩=some (.int .i64 0):=by rw [hvb39];exact farP2 r2 (by omega)
          have r3:vb39.cell? ⟨w.heap.size+1,3,none⟩=some (.int .i64 0):=by rw [hvb39];exact farP2 r3 (by omega)
          have r4:vb39.cell? ⟨w.heap.size+1,4,none⟩=some (.int .i64 0):=by rw [hvb39];exact farP2 r4 (by omega)
          have r5:vb39.cell? ⟨w.heap.size+1,5,none⟩=some (.int .i64 0):=by rw [hvb39];exact farP2 r5 (by omega)
          have g70:vb39.cell? ⟨bk38,0,none⟩=some (.int .i64 x0):=by rw [hvb39];exact farP2 g70 (by omega)
          have g71:vb39.cell? ⟨bk38,1,none⟩=some (.int .i64 x1):=by rw [hvb39];exact farP2 g71 (by omega)
          have HW:=Lib.hid (show Up w vb39 by rw [hvb39];exact HW.out.setP2 (by omega))
          clear hvb39 z0_ z1_ g80 g81
          have g80:=t0_
          have g81:=t1_
          clear t0_ t1_
          refine wpAnyH_done (by kernel_rfl) ?_ _
          clear hHeld
          go_wp2_with fail
          go_meet
          exact ⟨bk38,bk35,rfl,rfl,Lib.hid ⟨HW.out,g70,g71,g80,g81,r0,r1,r2,r3,r4,r5⟩⟩
        · go_simp
          refine hK.out _ _ ?hB53 (fun hHeld=>?_)
          case hB53=>(with_reducible exact keepK14 (Lib.hid ((Up.refl _).alloc _ _)) hHeld)
          clear hK K
          (try simp only [Act.put,stpA,stpB,stpC])
          obtain ⟨ua40,hua40⟩:∃ z,z=uc0_35.alloc (.cells #[.int .i64 0,.int .i64 0] 31):=⟨_,rfl⟩
          rw [← hua40] at hHeld ⊢
          have hv:Up uc0_35 ua40:=by rw [hua40];exact (Up.refl _).alloc _ _
          have g70:ua40.cell? ⟨uc0_35.heap.size,0,none⟩=some (.int .i64 0):=by rw [hua40];simp [go_sem]
          have g71:ua40.cell? ⟨uc0_35.heap.size,1,none⟩=some (.int .i64 0):=by rw [hua40];simp [go_sem]
          have hr_:=World.block_lt_of_cell? _ _ r0
          skip
          have r0:=hv.keep _ _ _ r0
          have r1:=hv.keep _ _ _ r1
          have r2:=hv.keep _ _ _ r2
          have r3:=hv.keep _ _ _ r3
          have r4:=hv.keep _ _ _ r4
          have r5:=hv.keep _ _ _ r5
          have g80:=hv.keep _ _ _ g80
          have g81:=hv.keep _ _ _ g81
          have HW:=Lib.hid (HW.out.trans hv)
          have bk40l:p1<uc0_35.heap.size∧p2<uc0_35.heap.size∧w.heap.size+1<uc0_35.heap.size:=⟨HP1,HP2,hr_⟩
          have HP1_:p1<ua40.heap.size:=Nat.lt_of_lt_of_le HP1 hv.size
          have HP2_:p2<ua40.heap.size:=Nat.lt_of_lt_of_le HP2 hv.size
          clear HP1 HP2 hv hua40 hr_
          have HP1:=HP1_
          have HP2:=HP2_
          clear HP1_ HP2_
          have bk40n:bk35<uc0_35.heap.size:=by assumption
          clear HBg8
          have HBg7:uc0_35.heap.size<ua40.heap.size:=World.block_lt_of_cell? _ _ g70
          have HBg8:bk35<ua40.heap.size:=World.block_lt_of_cell? _ _ g80
          generalize uc0_35.heap.size=bk40 at *
          refine wpAnyH_ready (rs:=[3]) (by kernel_rfl) (by simp) ?_
          refine AllReadyH.cons (o:=⟨_,_,_,_,_,_⟩) rfl (fun K hK=>?_) (AllReadyH.nil)
          go_simp
          (go_at_call 37;(with_reducible refine (K2.out _).mono ?_);rintro e uc1_40 ⟨rfl,hu⟩;have HW:=Lib.hid (HW.out.trans hu);have HX:=Lib.hid (keepK14 (Lib.hid hu) hHeld);have r0:=hu.keep _ _ _ r0;have r1:=hu.keep _ _ _ r1;have r2:=hu.keep _ _ _ r2;have r3:=hu.keep _ _ _ r3;have r4:=hu.keep _ _ _ r4;have r5:=hu.keep _ _ _ r5;have g70:=hu.keep _ _ _ g70;have g71:=hu.keep _ _ _ g71;have g80:=hu.keep _ _ _ g80;have g81:=hu.keep _ _ _ g81;have HP1:p1<uc1_40.heap.size:=Nat.lt_of_lt_of_le HP1 hu.size;have HP2:p2<uc1_40.heap.size:=Nat.lt_of_lt_of_le HP2 hu.size;have HBg7:bk40<uc1_40.heap.size:=World.block_lt_of_cell? _ _ g70;have HBg8:bk35<uc1_40.heap.size:=World.block_lt_of_cell? _ _ g80;clear hu)
          (try go_wp2_with fail)
          refine hK.out _ _ ?hB54 (fun hHeld=>?_)
          case hB54=>(with_reducible exact HX.out)
          clear hK K
          (try simp only [Act.put,stpA,stpB,stpC])
          have z0_:=HW.out.ownGe (g:=bk40) (by omega) 0
          have z1_:=HW.out.ownGe (g:=bk40) (by omega) 1
          refine wpAnyH_ready (rs:=[6]) (by kernel_rfl) (by simp) ?_
          refine AllReadyH.cons (o:=⟨_,_,_,_,_,_⟩) rfl (fun K hK=>?_) (AllReadyH.nil)
          go_simp
          refine hK.out _ _ ?hB55 (fun hHeld=>?_)
          case hB55=>(with_reducible exact set2K14 hHeld (by omega) (by omega) (by omega))
          clear hK K
          (try simp only [Act.put,stpA,stpB,stpC])
          obtain ⟨va42,hva42⟩:∃ z,z=(uc1_40.setCell ⟨bk40,0,none⟩ (.int .i64 x0)).setCell ⟨bk40,1,none⟩ (.int .i64 x1):=⟨_,rfl⟩
          rw [← hva42] at hHeld ⊢
          obtain ⟨t0_,t1_⟩:=cellsP2 (w:=uc1_40) (p:=bk40) (v0:=.int .i64 x0) (v1:=.int .i64 x1) g70 g71
          rw [← hva42] at t0_ t1_
          have r0:va42.cell? ⟨w.heap.size+1,0,none⟩=some (.int .i64 0):=by rw [hva42];exact farP2 r0 (by omega)
          have r1:va42.cell? ⟨w.heap.size+1,1,none⟩=some (.int .i64 0):=by rw [hva42];exact farP2 r1 (by omega)
          have r2:va42.cell? ⟨w.heap.size+1,2,none⟩=some (.int .i64 0):=by rw [hva42];exact farP2 r2 (by omega)
          have r3:va42.cell? ⟨w.heap.size+1,3,none⟩=some (.int .i64 0):=by rw [hva42];exact farP2 r3 (by omega)
          have r4:va42.cell? ⟨w.heap.size+1,4,none⟩=some (.int .i64 0):=by rw [hva42];exact farP2 r4 (by omega)
          have r5:va42.cell? ⟨w.heap.size+1,5,none⟩=some (.int .i64 0):=by rw [hva42];exact farP2 r5 (by omega)
          have g80:va42.cell? ⟨bk35,0,none⟩=some (.int .i64 0):=by rw [hva42];exact farP2 g80 (by omega)
          have g81:va42.cell? ⟨bk35,1,none⟩=some (.int .i64 0):=by rw [hva42];exact farP2 g81 (by omega)
          have HW:=Lib.hid (show Up w va42 by rw [hva42];exact HW.out.setP2 (by omega))
          clear hva42 z0_ z1_ g70 g71
          have g70:=t0_
          have g71:=t1_
          clear t0_ t1_
          have z0_:=HW.out.ownGe (g:=bk35) (by omega) 0
          have z1_:=HW.out.ownGe (g:=bk35) (by omega) 1
          refine wpAnyH_ready (rs:=[7]) (by kernel_rfl) (by simp) ?_
          refine AllReadyH.cons (o:=⟨_,_,_,_,_,_⟩) rfl (fun K hK=>?_) (AllReadyH.nil)
          go_simp
          refine hK.out _ _ ?hB56 (fun hHeld=>?_)
          case hB56=>(with_reducible exact set2K14 hHeld (by omega) (by omega) (by omega))
          clear hK K
          (try simp only [Act.put,stpA,stpB,stpC])
          obtain ⟨vb42,hvb42⟩:∃ z,z=(va42.setCell ⟨bk35,0,none⟩ (.int .i64 y0)).setCell ⟨bk35,1,none⟩ (.int .i64 y1):=⟨_,rfl⟩
          rw [← hvb42] at hHeld ⊢
          obtain ⟨t0_,t1_⟩:=cellsP2 (w:=va42) (p:=bk35) (v0:=.int .i64 y0) (v1:=.int .i64 y1) g80 g81
          rw [← hvb42] at t0_ t1_
          have r0:vb42.cell? ⟨w.heap.size+1,0,none⟩=some (.int .i64 0):=by rw [hvb42];exact farP2 r0 (by omega)
          have r1:vb42.cell? ⟨w.heap.size+1,1,none⟩=some (.int .i64 0):=by rw [hvb42];exact farP2 r1 (by omega)
          have r2:vb42.cell? ⟨w.heap.size+1,2,none⟩=some (.int .i64 0):=by rw [hvb42];exact farP2 r2 (by omega)
          have r3:vb42.cell? ⟨w.heap.size+1,3,none⟩=some (.int .i64 0):=by rw [hvb42];exact farP2 r3 (by omega)
          have r4:vb42.cell? ⟨w.heap.size+1,4,none⟩=some (.int .i64 0):=by rw [hvb42];exact farP2 r4 (by omega)
          have r5:vb42.cell? ⟨w.heap.size+1,5,none⟩=some (.int .i64 0):=by rw [hvb42];exact farP2 r5 (by omega)
          have g70:vb42.cell? ⟨bk40,0,none⟩=some (.int .i64 x0):=by rw [hvb42];exact farP2 g70 (by omega)
          have g71:vb42.cell? ⟨bk40,1,none⟩=some (.int .i64 x1):=by rw [hvb42];exact farP2 g71 (by omega)
          have HW:=Lib.hid (show Up w vb42 by rw [hvb42];exact HW.out.setP2 (by omega))
          clear hvb42 z0_ z1_ g80 g81
          have g80:=t0_
          have g81:=t1_
          clear t0_ t1_
          refine wpAnyH_done (by kernel_rfl) ?_ _
          clear hHeld
          go_wp2_with fail
          go_meet
          exact ⟨bk40,bk35,rfl,rfl,Lib.hid ⟨HW.out,g70,g71,g80,g81,r0,r1,r2,r3,r4,r5⟩⟩
      · go_simp
        refine hK.out _ _ ?hB57 (fun hHeld=>?_)
        case hB57=>(with_reducible exact keepK14 (Lib.hid ((Up.refl _).alloc _ _)) hHeld)
        clear hK K
        (try simp only [Act.put,stpA,stpB,stpC])
        obtain ⟨ua43,hua43⟩:∃ z,z=ua35.alloc (.cells #[.int .i64 0,.int .i64 0] 31):=⟨_,rfl⟩
        rw [← hua43] at hHeld ⊢
        have hv:Up ua35 ua43:=by rw [hua43];exact (Up.refl _).alloc _ _
        have g70:ua43.cell? ⟨ua35.heap.size,0,none⟩=some (.int .i64 0):=by rw [hua43];simp [go_sem]
        have g71:ua43.cell? ⟨ua35.heap.size,1,none⟩=some (.int .i64 0):=by rw [hua43];simp [go_sem]
        have hr_:=World.block_lt_of_cell? _ _ r0
        skip
        have r0:=hv.keep _ _ _ r0
        have r1:=hv.keep _ _ _ r1
        have r2:=hv.keep _ _ _ r2
        have r3:=hv.keep _ _ _ r3
        have r4:=hv.keep _ _ _ r4
        have r5:=hv.keep _ _ _ r5
        have g80:=hv.keep _ _ _ g80
        have g81:=hv.keep _ _ _ g81
        have HW:=Lib.hid (HW.out.trans hv)
        have bk43l:p1<ua35.heap.size∧p2<ua35.heap.size∧w.heap.size+1<ua35.heap.size:=⟨HP1,HP2,hr_⟩
        have HP1_:p1<ua43.heap.size:=Nat.lt_of_lt_of_le HP1 hv.size
        have HP2_:p2<ua43.heap.size:=Nat.lt_of_lt_of_le HP2 hv.size
        clear HP1 HP2 hv hua43 hr_
        have HP1:=HP1_
        have HP2:=HP2_
        clear HP1_ HP2_
        have bk43n:bk35<ua35.heap.size:=by assumption
        clear HBg8
        have HBg7:ua35.heap.size<ua43.heap.size:=World.block_lt_of_cell? _ _ g70
        have HBg8:bk35<ua43.heap.size:=World.block_lt_of_cell? _ _ g80
        generalize ua35.heap.size=bk43 at *
        refine wpAnyH_ready (rs:=[1]) (by kernel_rfl) (by simp) ?_
        refine AllReadyH.cons (o:=⟨_,_,_,_,_,_⟩) rfl (fun K hK=>?_) (AllReadyH.nil)
        go_simp
        (go_at_call 37;(with_reducible refine (K1.out _).mono ?_);rintro e uc0_43 ⟨rfl,hu⟩;have HW:=Lib.hid (HW.out.trans hu);have HX:=Lib.hid (keepK14 (Lib.hid hu) hHeld);have r0:=hu.keep _ _ _ r0;have r1:=hu.keep _ _ _ r1;have r2:=hu.keep _ _ _ r2;have r3:=hu.keep _ _ _ r3;have r4:=hu.keep _ _ _ r4;have r5:=hu.keep _ _ _ r5;have g70:=hu.keep _ _ _ g70;have g71:=hu.keep _ _ _ g71;have g80:=hu.keep _ _ _ g80;have g81:=hu.keep _ _ _ g81;have HP1:p1<uc0_43.heap.size:=Nat.lt_of_lt_of_le HP1 hu.size;have HP2:p2<uc0_43.heap.size:=Nat.lt_of_lt_of_le HP2 hu.size;have HBg7:bk43<uc0_43.heap.size:=World.block_lt_of_cell? _ _ g70;have HBg8:bk35<uc0_43.heap.size:=World.block_lt_of_cell? _ _ g80;clear hu)
        (try go_wp2_with fail)
        refine hK.out _ _ ?hB58 (fun hHeld=>?_)
        case hB58=>(with_reducible exact HX.out)
        clear hK K
        (try simp only [Act.put,stpA,stpB,stpC])
        refine wpAnyH_ready (rs:=[3]) (by kernel_rfl) (by simp) ?_
        refine AllReadyH.cons (o:=⟨_,_,_,_,_,_⟩) rfl (fun K hK=>?_) (AllReadyH.nil)
        go_simp
        (go_at_call 37;(with_reducible refine (K2.out _).mono ?_);rintro e uc1_44 ⟨rfl,hu⟩;have HW:=Lib.hid (HW.out.trans hu);have HX:=Lib.hid (keepK14 (Lib.hid hu) hHeld);have r0:=hu.keep _ _ _ r0;have r1:=hu.keep _ _ _ r1;have r2:=hu.keep _ _ _ r2;have r3:=hu.keep _ _ _ r3;have r4:=hu.keep _ _ _ r4;have r5:=hu.keep _ _ _ r5;have g70:=hu.keep _ _ _ g70;have g71:=hu.keep _ _ _ g71;have g80:=hu.keep _ _ _ g80;have g81:=hu.keep _ _ _ g81;have HP1:p1<uc1_44.heap.size:=Nat.lt_of_lt_of_le HP1 hu.size;have HP2:p2<uc1_44.heap.size:=Nat.lt_of_lt_of_le HP2 hu.size;have HBg7:bk43<uc1_44.heap.size:=World.block_lt_of_cell? _ _ g70;have HBg8:bk35<uc1_44.heap.size:=World.block_lt_of_cell? _ _ g80;clear hu)
        (try go_wp2_with fail)
        refine hK.out _ _ ?hB59 (fun hHeld=>?_)
        case hB59=>(with_reducible exact HX.out)
        clear hK K
        (try simp only [Act.put,stpA,stpB,stpC])
        have z0_:=HW.out.ownGe (g:=bk43) (by omega) 0
        have z1_:=HW.out.ownGe (g:=bk43) (by omega) 1
        refine wpAnyH_ready (rs:=[6]) (by kernel_rfl) (by simp) ?_
        refine AllReadyH.cons (o:=⟨_,_,_,_,_,_⟩) rfl (fun K hK=>?_) (AllReadyH.nil)
        go_simp
        refine hK.out _ _ ?hB60 (fun hHeld=>?_)
        case hB60=>(with_reducible exact set2K14 hHeld (by omega) (by omega) (by omega))
        clear hK K
        (try simp only [Act.put,stpA,stpB,stpC])
        obtain ⟨va46,hva46⟩:∃ z,z=(uc1_44.setCell ⟨bk43,0,none⟩ (.int .i64 x0)).setCell ⟨bk43,1,none⟩ (.int .i64 x1):=⟨_,rfl⟩
        rw [← hva46] at hHeld ⊢
        obtain ⟨t0_,t1_⟩:=cellsP2 (w:=uc1_44) (p:=bk43) (v0:=.int .i64 x0) (v1:=.int .i64 x1) g70 g71
        rw [← hva46] at t0_ t1_
        have r0:va46.cell? ⟨w.heap.size+1,0,none⟩=some (.int .i64 0):=by rw [hva46];exact farP2 r0 (by omega)
        have r1:va46.cell? ⟨w.heap.size+1,1,none⟩=some (.int .i64 0):=by rw [hva46];exact farP2 r1 (by omega)
        have r2:va46.cell? ⟨w.heap.size+1,2,none⟩=some (.int .i64 0):=by rw [hva46];exact farP2 r2 (by omega)
        have r3:va46.cell? ⟨w.heap.size+1,3,none⟩=some (.int .i64 0):=by rw [hva46];exact farP2 r3 (by omega)
        have r4:va46.cell? ⟨w.heap.size+1,4,none⟩=some (.int .i64 0):=by rw [hva46];exact farP2 r4 (by omega)
        have r5:va46.cell? ⟨w.heap.size+1,5,none⟩=some (.int .i64 0):=by rw [hva46];exact farP2 r5 (by omega)
        have g80:va46.cell? ⟨bk35,0,none⟩=some (.int .i64 0):=by rw [hva46];exact farP2 g80 (by omega)
        have g81:va46.cell? ⟨bk35,1,none⟩=some (.int .i64 0):=by rw [hva46];exact farP2 g81 (by omega)
        have HW:=Lib.hid (show Up w va46 by rw [hva46];exact HW.out.setP2 (by omega))
        clear hva46 z0_ z1_ g70 g71
        have g70:=t0_
        have g71:=t1_
        clear t0_ t1_
        have z0_:=HW.out.ownGe (g:=bk35) (by omega) 0
        have z1_:=HW.out.ownGe (g:=bk35) (by omega) 1
        refine wpAnyH_ready (rs:=[7]) (by kernel_rfl) (by simp) ?_
        refine AllReadyH.cons (o:=⟨_,_,_,_,_,_⟩) rfl (fun K hK=>?_) (AllReadyH.nil)
        go_simp
        refine hK.out _ _ ?hB61 (fun hHeld=>?_)
        case hB61=>(with_reducible exact set2K14 hHeld (by omega) (by omega) (by omega))
        clear hK K
        (try simp only [Act.put,stpA,stpB,stpC])
        obtain ⟨vb46,hvb46⟩:∃ z,z=(va46.setCell ⟨bk35,0,none⟩ (.int .i64 y0)).setCell ⟨bk35,1,none⟩ (.int .i64 y1):=⟨_,rfl⟩
        rw [← hvb46] at hHeld ⊢
        obtain ⟨t0_,t1_⟩:=cellsP2 (w:=va46) (p:=bk35) (v0:=.int .i64 y0) (v1:=.int .i64 y1) g80 g81
        rw [← hvb46] at t0_ t1_
        have r0:vb46.cell? ⟨w.heap.size+1,0,none⟩=some (.int .i64 0):=by rw [hvb46];exact farP2 r0 (by omega)
        have r1:vb46.cell? ⟨w.heap.size+1,1,none⟩=some (.int .i64 0):=by rw [hvb46];exact farP2 r1 (by omega)
        have r2:vb46.cell? ⟨w.heap.size+1,2,none⟩=some (.int .i64 0):=by rw [hvb46];exact farP2 r2 (by omega)
        have r3:vb46.cell? ⟨w.heap.size+1,3,none⟩=some (.int .i64 0):=by rw [hvb46];exact farP2 r3 (by omega)
        have r4:vb46.cell? ⟨w.heap.size+1,4,none⟩=some (.int .i64 0):=by rw [hvb46];exact farP2 r4 (by omega)
        have r5:vb46.cell? ⟨w.heap.size+1,5,none⟩=some (.int .i64 0):=by rw [hvb46];exact farP2 r5 (by omega)
        have g70:vb46.cell? ⟨bk43,0,none⟩=some (.int .i64 x0):=by rw [hvb46];exact farP2 g70 (by omega)
        have g71:vb46.cell? ⟨bk43,1,none⟩=some (.int .i64 x1):=by rw [hvb46];exact farP2 g71 (by omega)
        have HW:=Lib.hid (show Up w vb46 by rw [hvb46];exact HW.out.setP2 (by omega))
        clear hvb46 z0_ z1_ g80 g81
        have g80:=t0_
        have g81:=t1_
        clear t0_ t1_
        refine wpAnyH_done (by kernel_rfl) ?_ _
        clear hHeld
        go_wp2_with fail
        go_meet
        exact ⟨bk43,bk35,rfl,rfl,Lib.hid ⟨HW.out,g70,g71,g80,g81,r0,r1,r2,r3,r4,r5⟩⟩
  case rest =>
  obtain ⟨b7,b8,rfl,rfl,HX⟩:=hcut
  obtain ⟨U9,g70,g71,g80,g81,s0_,s1_,s2_,s3_,s4_,s5_⟩:=HX.out
  have z0:=U9.ownGe (g:=w.heap.size+1) (by omega) 0
  have z1:=U9.ownGe (g:=w.heap.size+1) (by omega) 1
  have z2:=U9.ownGe (g:=w.heap.size+1) (by omega) 2
  have z3:=U9.ownGe (g:=w.heap.size+1) (by omega) 3
  have z4:=U9.ownGe (g:=w.heap.size+1) (by omega) 4
  have z5:=U9.ownGe (g:=w.heap.size+1) (by omega) 5
  have U9:=Lib.hid U9
  clear HW HSS r0 r1 r2 r3 r4 r5
  go_wp2_with fail
  refine bodyPost_ret (v:=.tuple #[.agg #[.int .i64 x0,.int .i64 x1,.int .i64 x0,.int .i64 x1,.int .i64 y0,.int .i64 y1],.int .i64 0]) (by simp [results,Tryz.results11,go_sem,s0_,s1_,s2_,s3_,s4_,s5_]) rfl ⟨rfl,?_⟩
  exact U9.out.setP6 (by omega)
theorem ask14_up (v q c now seq:Int) (n k:Nat) (A:Option Addr) (X:List Mrk) (hn:n≤50000) (w:World) (hS:SG cM w A n X) :
    Calls Tryz.prog 11 #[.agg #[.int .i64 v,.int .i64 q,.int .i64 c,.int .i64 now,.int .i64 seq,.slice A n k]] w fun e w'=>e=.returned (akS (stP v q c now seq X) (spR (enM now v X).1) (spR (enM now v X).2))∧Up w w':=by
  cases hv:stP v q c now seq X with
  | false=>exact ask14_bad v q c now seq n k A X hn hv w hS
  | true=>exact ask14_good v q c now seq n k A X hn hv w hS
end Go.Proofs.YtafkoddgefcpnaaGreat
