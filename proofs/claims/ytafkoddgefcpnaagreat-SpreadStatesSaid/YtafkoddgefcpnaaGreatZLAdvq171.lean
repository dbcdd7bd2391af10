/- Texts of these claims, one after the other. -/
import Derived.Test.YtafkoddgefcpnaaGreatRows
import Derived.Test.YtafkoddgefcpnaaGreatZLMaq169
import Derived.Test.YtafkoddgefcpnaaGreatZLRVdq165
namespace Go.Proofs.YtafkoddgefcpnaaGreat
open Go.RowKit
set_option linter.unusedVariables false

set_option maxHeartbeats 4000000 in
set_option maxRecDepth 100000 in
theorem adv14_bad (v q c now seq td:Int) (n k:Nat) (A:Option Addr) (X:List Mrk) (hn:n≤50000) (hk:n≤k) (hv:stP v q c now seq X=false) (w:World) (hS:SG cM w A n X) :
    Calls Tryz.prog 7 #[.agg #[.int .i64 v,.int .i64 q,.int .i64 c,.int .i64 now,.int .i64 seq,.slice A n k],.int .i64 td] w fun e w'=>e=.returned (.tuple #[.agg #[.int .i64 0,.int .i64 0,.int .i64 0,.int .i64 0,.int .i64 0,.slice none 0 0],.int .i64 2])∧Up w w':=by
  have KV:=Lib.hid (fun W (h:SG cM W A n X)=>validate14_up v q c now seq n k A X hn W h)
  rw [stPE_no hv] at KV
  have HS:=Lib.hid hS
  clear hS hv
  go_enter Tryz.func7,Tryz.ntmps7
  go_wp2_with (first
    | (go_at_call 13;(with_reducible refine (KV.out _ (HS.out.up (((Up.refl w).alloc _ _).alloc _ _))).mono ?_);rintro e w1 ⟨rfl,hu⟩;have hv:=(((Up.refl w).alloc #[.int .i64 v,.int .i64 q,.int .i64 c,.int .i64 now,.int .i64 seq,.slice A n k] 24).alloc #[.int .i64 0,.int .i64 0,.int .i64 0,.int .i64 0,.int .i64 0,.slice none 0 0] 24).trans hu;have HV1:=Lib.hid hv;have HU1:=Lib.hid ((Up.refl w).trans hv);have a_1_0:=hu.keep (w.heap.size) 0 (.int .i64 v) (by simp [go_sem]);have a_1_1:=hu.keep (w.heap.size) 1 (.int .i64 q) (by simp [go_sem]);have a_1_2:=hu.keep (w.heap.size) 2 (.int .i64 c) (by simp [go_sem]);have a_1_3:=hu.keep (w.heap.size) 3 (.int .i64 now) (by simp [go_sem]);have a_1_4:=hu.keep (w.heap.size) 4 (.int .i64 seq) (by simp [go_sem]);have a_1_5:=hu.keep (w.heap.size) 5 (.slice A n k) (by simp [go_sem]);have r_1_0:=hu.keep (w.heap.size+1) 0 (.int .i64 0) (by simp [go_sem]);have r_1_1:=hu.keep (w.heap.size+1) 1 (.int .i64 0) (by simp [go_sem]);have r_1_2:=hu.keep (w.heap.size+1) 2 (.int .i64 0) (by simp [go_sem]);have r_1_3:=hu.keep (w.heap.size+1) 3 (.int .i64 0) (by simp [go_sem]);have r_1_4:=hu.keep (w.heap.size+1) 4 (.int .i64 0) (by simp [go_sem]);have r_1_5:=hu.keep (w.heap.size+1) 5 (.slice none 0 0) (by simp [go_sem]);have la1:=World.block_lt_of_cell? _ _ a_1_0;have lr1:=World.block_lt_of_cell? _ _ r_1_0;have z0:=HU1.out.ownGe (g:=w.heap.size+1) (by omega) 0;have z1:=HU1.out.ownGe (g:=w.heap.size+1) (by omega) 1;have z2:=HU1.out.ownGe (g:=w.heap.size+1) (by omega) 2;have z3:=HU1.out.ownGe (g:=w.heap.size+1) (by omega) 3;have z4:=HU1.out.ownGe (g:=w.heap.size+1) (by omega) 4;have z5:=HU1.out.ownGe (g:=w.heap.size+1) (by omega) 5;clear hu hv ))
  refine bodyPost_ret (v:=.tuple #[.agg #[.int .i64 0,.int .i64 0,.int .i64 0,.int .i64 0,.int .i64 0,.slice none 0 0],.int .i64 2]) (by simp [results,Tryz.results7,go_sem,r_1_0,r_1_1,r_1_2,r_1_3,r_1_4,r_1_5]) rfl ⟨rfl,?_⟩
  exact HU1.out.setP6 (by omega)

set_option maxHeartbeats 4000000 in
set_option maxRecDepth 100000 in
theorem radv14_bad (v q c now seq td:Int) (n k:Nat) (A:Option Addr) (X:List Mrk) (hn:n≤50000) (hk:n≤k) (hv:stP v q c now seq X=false) (w:World) (hS:SG cM w A n X) :
    Calls Tryz.prog 8 #[.agg #[.int .i64 v,.int .i64 q,.int .i64 c,.int .i64 now,.int .i64 seq,.slice A n k],.int .i64 td] w fun e w'=>e=.returned (.tuple #[.agg #[.int .i64 0,.int .i64 0,.int .i64 0,.int .i64 0,.int .i64 0,.slice none 0 0],.int .i64 2])∧Up w w':=by
  have KV:=Lib.hid (fun W (h:SG cM W A n X)=>rvalidate14_up v q c now seq n k A X hn W h)
  rw [stPE_no hv] at KV
  have HS:=Lib.hid hS
  clear hS hv
  go_enter Tryz.func8,Tryz.ntmps8
  go_wp2_with (first
    | (go_at_call 14;(with_reducible refine (KV.out _ (HS.out.up (((Up.refl w).alloc _ _).alloc _ _))).mono ?_);rintro e w1 ⟨rfl,hu⟩;have hv:=(((Up.refl w).alloc #[.int .i64 v,.int .i64 q,.int .i64 c,.int .i64 now,.int .i64 seq,.slice A n k] 24).alloc #[.int .i64 0,.int .i64 0,.int .i64 0,.int .i64 0,.int .i64 0,.slice none 0 0] 24).trans hu;have HV1:=Lib.hid hv;have HU1:=Lib.hid ((Up.refl w).trans hv);have a_1_0:=hu.keep (w.heap.size) 0 (.int .i64 v) (by simp [go_sem]);have a_1_1:=hu.keep (w.heap.size) 1 (.int .i64 q) (by simp [go_sem]);have a_1_2:=hu.keep (w.heap.size) 2 (.int .i64 c) (by simp [go_sem]);have a_1_3:=hu.keep (w.heap.size) 3 (.int .i64 now) (by simp [go_sem]);have a_1_4:=hu.keep (w.heap.size) 4 (.int .i64 seq) (by simp [go_sem]);have a_1_5:=hu.keep (w.heap.size) 5 (.slice A n k) (by simp [go_sem]);have r_1_0:=hu.keep (w.heap.size+1) 0 (.int .i64 0) (by simp [go_sem]);have r_1_1:=hu.keep (w.heap.size+1) 1 (.int .i64 0) (by simp [go_sem]);have r_1_2:=hu.keep (w.heap.size+1) 2 (.int .i64 0) (by simp [go_sem]);have r_1_3:=hu.keep (w.heap.size+1) 3 (.int .i64 0) (by simp [go_sem]);have r_1_4:=hu.keep (w.heap.size+1) 4 (.int .i64 0) (by simp [go_sem]);have r_1_5:=hu.keep (w.heap.size+1) 5 (.slice none 0 0) (by simp [go_sem]);have la1:=World.block_lt_of_cell? _ _ a_1_0;have lr1:=World.block_lt_of_cell? _ _ r_1_0;have z0:=HU1.out.ownGe (g:=w.heap.size+1) (by omega) 0;have z1:=HU1.out.ownGe (g:=w.heap.size+1) (by omega) 1;have z2:=HU1.out.ownGe (g:=w.heap.size+1) (by omega) 2;have z3:=HU1.out.ownGe (g:=w.heap.size+1) (by omega) 3;have z4:=HU1.out.ownGe (g:=w.heap.size+1) (by omega) 4;have z5:=HU1.out.ownGe (g:=w.heap.size+1) (by omega) 5;clear hu hv ))
  refine bodyPost_ret (v:=.tuple #[.agg #[.int .i64 0,.int .i64 0,.int .i64 0,.int .i64 0,.int .i64 0,.slice none 0 0],.int .i64 2]) (by simp [results,Tryz.results8,go_sem,r_1_0,r_1_1,r_1_2,r_1_3,r_1_4,r_1_5]) rfl ⟨rfl,?_⟩
  exact HU1.out.setP6 (by omega)

set_option maxHeartbeats 4000000 in
set_option maxRecDepth 100000 in
theorem adv14_time (v q c now seq td:Int) (n k:Nat) (A:Option Addr) (X:List Mrk) (hn:n≤50000) (hk:n≤k) (hv:stP v q c now seq X=true) (ht:td<now∨16777216<td) (w:World) (hS:SG cM w A n X) :
    Calls Tryz.prog 7 #[.agg #[.int .i64 v,.int .i64 q,.int .i64 c,.int .i64 now,.int .i64 seq,.slice A n k],.int .i64 td] w fun e w'=>e=.returned (.tuple #[.agg #[.int .i64 0,.int .i64 0,.int .i64 0,.int .i64 0,.int .i64 0,.slice none 0 0],.int .i64 3])∧Up w w':=by
  have KV:=Lib.hid (fun W (h:SG cM W A n X)=>validate14_up v q c now seq n k A X hn W h)
  rw [stPE_yes hv] at KV
  have HS:=Lib.hid hS
  have KT:=Lib.hid (toSmooth_up v q c now seq n k A)
  have KA:=Lib.hid (fun W (_:Up w W)=>madv_time 4 v q c now seq td n k A (stP_tick hv) ht W)
  have KF:=Lib.hid (fromSmooth_up 0 0 0 0 0 0 0 0 none)
  clear hS hv ht
  go_enter Tryz.func7,Tryz.ntmps7
  go_wp2_with (first
    | (go_at_call 13;(with_reducible refine (KV.out _ (HS.out.up (((Up.refl w).alloc _ _).alloc _ _))).mono ?_);rintro e w1 ⟨rfl,hu⟩;have hv:=(((Up.refl w).alloc #[.int .i64 v,.int .i64 q,.int .i64 c,.int .i64 now,.int .i64 seq,.slice A n k] 24).alloc #[.int .i64 0,.int .i64 0,.int .i64 0,.int .i64 0,.int .i64 0,.slice none 0 0] 24).trans hu;have HV1:=Lib.hid hv;have HU1:=Lib.hid ((Up.refl w).trans hv);have a_1_0:=hu.keep (w.heap.size) 0 (.int .i64 v) (by simp [go_sem]);have a_1_1:=hu.keep (w.heap.size) 1 (.int .i64 q) (by simp [go_sem]);have a_1_2:=hu.keep (w.heap.size) 2 (.int .i64 c) (by simp [go_sem]);have a_1_3:=hu.keep (w.heap.size) 3 (.int .i64 now) (by simp [go_sem]);have a_1_4:=hu.keep (w.heap.size) 4 (.int .i64 seq) (by simp [go_sem]);have a_1_5:=hu.keep (w.heap.size) 5 (.slice A n k) (by simp [go_sem]);have r_1_0:=hu.keep (w.heap.size+1) 0 (.int .i64 0) (by simp [go_sem]);have r_1_1:=hu.keep (w.heap.size+1) 1 (.int .i64 0) (by simp [go_sem]);have r_1_2:=hu.keep (w.heap.size+1) 2 (.int .i64 0) (by simp [go_sem]);have r_1_3:=hu.keep (w.heap.size+1) 3 (.int .i64 0) (by simp [go_sem]);have r_1_4:=hu.keep (w.heap.size+1) 4 (.int .i64 0) (by simp [go_sem]);have r_1_5:=hu.keep (w.heap.size+1) 5 (.slice none 0 0) (by simp [go_sem]);have la1:=World.block_lt_of_cell? _ _ a_1_0;have lr1:=World.block_lt_of_cell? _ _ r_1_0;clear hu hv )
    | (go_at_call 27;(with_reducible refine (KT.out _).mono ?_);rintro e w2 ⟨rfl,hu⟩;have hv:=(Up.refl w1).trans hu;have HV2:=Lib.hid hv;have HU2:=Lib.hid (HU1.out.trans hv);have a_2_0:=hv.keep _ _ _ a_1_0;have a_2_1:=hv.keep _ _ _ a_1_1;have a_2_2:=hv.keep _ _ _ a_1_2;have a_2_3:=hv.keep _ _ _ a_1_3;have a_2_4:=hv.keep _ _ _ a_1_4;have a_2_5:=hv.keep _ _ _ a_1_5;have r_2_0:=hv.keep _ _ _ r_1_0;have r_2_1:=hv.keep _ _ _ r_1_1;have r_2_2:=hv.keep _ _ _ r_1_2;have r_2_3:=hv.keep _ _ _ r_1_3;have r_2_4:=hv.keep _ _ _ r_1_4;have r_2_5:=hv.keep _ _ _ r_1_5;have la2:=World.block_lt_of_cell? _ _ a_2_0;have lr2:=World.block_lt_of_cell? _ _ r_2_0;clear hu hv la1 a_1_0 a_1_1 a_1_2 a_1_3 a_1_4 a_1_5 lr1 r_1_0 r_1_1 r_1_2 r_1_3 r_1_4 r_1_5)
    | (go_at_call 26;(with_reducible refine (KA.out _ HU2.out).mono ?_);rintro e w3 ⟨rfl,hu⟩;have hv:=(Up.refl w2).trans hu;have HV3:=Lib.hid hv;have HU3:=Lib.hid (HU2.out.trans hv);have a_3_0:=hv.keep _ _ _ a_2_0;have a_3_1:=hv.keep _ _ _ a_2_1;have a_3_2:=hv.keep _ _ _ a_2_2;have a_3_3:=hv.keep _ _ _ a_2_3;have a_3_4:=hv.keep _ _ _ a_2_4;have a_3_5:=hv.keep _ _ _ a_2_5;have r_3_0:=hv.keep _ _ _ r_2_0;have r_3_1:=hv.keep _ _ _ r_2_1;have r_3_2:=hv.keep _ _ _ r_2_2;have r_3_3:=hv.keep _ _ _ r_2_3;have r_3_4:=hv.keep _ _ _ r_2_4;have r_3_5:=hv.keep _ _ _ r_2_5;have la3:=World.block_lt_of_cell? _ _ a_3_0;have lr3:=World.block_lt_of_cell? _ _ r_3_0;clear hu hv la2 a_2_0 a_2_1 a_2_2 a_2_3 a_2_4 a_2_5 lr2 r_2_0 r_2_1 r_2_2 r_2_3 r_2_4 r_2_5)
    | (go_at_call 28;(with_reducible refine (KF.out _).mono ?_);rintro e w4 ⟨rfl,hu⟩;have hv:=((Up.refl w3).alloc #[.int .i64 0,.int .i64 0,.int .i64 0,.int .i64 0,.int .i64 0,.int .i64 0,.slice none 0 0] 58).trans hu;have HV4:=Lib.hid hv;have HU4:=Lib.hid (HU3.out.trans hv);have a_4_0:=hv.keep _ _ _ a_3_0;have a_4_1:=hv.keep _ _ _ a_3_1;have a_4_2:=hv.keep _ _ _ a_3_2;have a_4_3:=hv.keep _ _ _ a_3_3;have a_4_4:=hv.keep _ _ _ a_3_4;have a_4_5:=hv.keep _ _ _ a_3_5;have r_4_0:=hv.keep _ _ _ r_3_0;have r_4_1:=hv.keep _ _ _ r_3_1;have r_4_2:=hv.keep _ _ _ r_3_2;have r_4_3:=hv.keep _ _ _ r_3_3;have r_4_4:=hv.keep _ _ _ r_3_4;have r_4_5:=hv.keep _ _ _ r_3_5;have x_4_0:=hu.keep (w3.heap.size) 0 (.int .i64 0) (by simp [go_sem]);have x_4_1:=hu.keep (w3.heap.size) 1 (.int .i64 0) (by simp [go_sem]);have x_4_2:=hu.keep (w3.heap.size) 2 (.int .i64 0) (by simp [go_sem]);have x_4_3:=hu.keep (w3.heap.size) 3 (.int .i64 0) (by simp [go_sem]);have x_4_4:=hu.keep (w3.heap.size) 4 (.int .i64 0) (by simp [go_sem]);have x_4_5:=hu.keep (w3.heap.size) 5 (.int .i64 0) (by simp [go_sem]);have x_4_6:=hu.keep (w3.heap.size) 6 (.slice none 0 0) (by simp [go_sem]);have la4:=World.block_lt_of_cell? _ _ a_4_0;have lr4:=World.block_lt_of_cell? _ _ r_4_0;have lx4:=World.block_lt_of_cell? _ _ x_4_0;have z0:=HU4.out.ownGe (g:=w.heap.size+1) (by omega) 0;have z1:=HU4.out.ownGe (g:=w.heap.size+1) (by omega) 1;have z2:=HU4.out.ownGe (g:=w.heap.size+1) (by omega) 2;have z3:=HU4.out.ownGe (g:=w.heap.size+1) (by omega) 3;have z4:=HU4.out.ownGe (g:=w.heap.size+1) (by omega) 4;have z5:=HU4.out.ownGe (g:=w.heap.size+1) (by omega) 5;clear hu hv la3 a_3_0 a_3_1 a_3_2 a_3_3 a_3_4 a_3_5 lr3 r_3_0 r_3_1 r_3_2 r_3_3 r_3_4 r_3_5))
  refine bodyPost_ret (v:=.tuple #[.agg #[.int .i64 0,.int .i64 0,.int .i64 0,.int .i64 0,.int .i64 0,.slice none 0 0],.int .i64 3]) (by simp [results,Tryz.results7,go_sem,r_4_0,r_4_1,r_4_2,r_4_3,r_4_4,r_4_5]) rfl ⟨rfl,?_⟩
  exact HU4.out.setP6 (by omega)

set_option maxHeartbeats 4000000 in
set_option maxRecDepth 100000 in
theorem radv14_time (v q c now seq td:Int) (n k:Nat) (A:Option Addr) (X:List Mrk) (hn:n≤50000) (hk:n≤k) (hv:stP v q c now seq X=true) (ht:td<now∨16777216<td) (w:World) (hS:SG cM w A n X) :
    Calls Tryz.prog 8 #[.agg #[.int .i64 v,.int .i64 q,.int .i64 c,.int .i64 now,.int .i64 seq,.slice A n k],.int .i64 td] w fun e w'=>e=.returned (.tuple #[.agg #[.int .i64 0,.int .i64 0,.int .i64 0,.int .i64 0,.int .i64 0,.slice none 0 0],.int .i64 3])∧Up w w':=by
  have KV:=Lib.hid (fun W (h:SG cM W A n X)=>rvalidate14_up v q c now seq n k A X hn W h)
  rw [stPE_yes hv] at KV
  have HS:=Lib.hid hS
  have KB:=Lib.hid (rback_any now td)
  rw [backE_no ht] at KB
  clear hS hv ht
  go_enter Tryz.func8,Tryz.ntmps8
  go_wp2_with (first
    | (go_at_call 14;(with_reducible refine (KV.out _ (HS.out.up (((Up.refl w).alloc _ _).alloc _ _))).mono ?_);rintro e w1 ⟨rfl,hu⟩;have hv:=(((Up.refl w).alloc #[.int .i64 v,.int .i64 q,.int .i64 c,.int .i64 now,.int .i64 seq,.slice A n k] 24).alloc #[.int .i64 0,.int .i64 0,.int .i64 0,.int .i64 0,.int .i64 0,.slice none 0 0] 24).trans hu;have HV1:=Lib.hid hv;have HU1:=Lib.hid ((Up.refl w).trans hv);have a_1_0:=hu.keep (w.heap.size) 0 (.int .i64 v) (by simp [go_sem]);have a_1_1:=hu.keep (w.heap.size) 1 (.int .i64 q) (by simp [go_sem]);have a_1_2:=hu.keep (w.heap.size) 2 (.int .i64 c) (by simp [go_sem]);have a_1_3:=hu.keep (w.heap.size) 3 (.int .i64 now) (by simp [go_sem]);have a_1_4:=hu.keep (w.heap.size) 4 (.int .i64 seq) (by simp [go_sem]);have a_1_5:=hu.keep (w.heap.size) 5 (.slice A n k) (by simp [go_sem]);have r_1_0:=hu.keep (w.heap.size+1) 0 (.int .i64 0) (by simp [go_sem]);have r_1_1:=hu.keep (w.heap.size+1) 1 (.int .i64 0) (by simp [go_sem]);have r_1_2:=hu.keep (w.heap.size+1) 2 (.int .i64 0) (by simp [go_sem]);have r_1_3:=hu.keep (w.heap.size+1) 3 (.int .i64 0) (by simp [go_sem]);have r_1_4:=hu.keep (w.heap.size+1) 4 (.int .i64 0) (by simp [go_sem]);have r_1_5:=hu.keep (w.heap.size+1) 5 (.slice none 0 0) (by simp [go_sem]);have la1:=World.block_lt_of_cell? _ _ a_1_0;have lr1:=World.block_lt_of_cell? _ _ r_1_0;have z0:=HU1.out.ownGe (g:=w.heap.size+1) (by omega) 0;have z1:=HU1.out.ownGe (g:=w.heap.size+1) (by omega) 1;have z2:=HU1.out.ownGe (g:=w.heap.size+1) (by omega) 2;have z3:=HU1.out.ownGe (g:=w.heap.size+1) (by omega) 3;have z4:=HU1.out.ownGe (g:=w.heap.size+1) (by omega) 4;have z5:=HU1.out.ownGe (g:=w.heap.size+1) (by omega) 5;clear hu hv )
    | (go_at_call 29;(with_reducible refine (KB.out _).mono ?_);rintro e w2 ⟨rfl,rfl⟩))
  refine bodyPost_ret (v:=.tuple #[.agg #[.int .i64 0,.int .i64 0,.int .i64 0,.int .i64 0,.int .i64 0,.slice none 0 0],.int .i64 3]) (by simp [results,Tryz.results8,go_sem,r_1_0,r_1_1,r_1_2,r_1_3,r_1_4,r_1_5]) rfl ⟨rfl,?_⟩
  exact HU1.out.setP6 (by omega)

set_option maxHeartbeats 4000000 in
set_option maxRecDepth 100000 in
theorem radv14_good (v q c now seq td:Int) (n k:Nat) (A:Option Addr) (X:List Mrk) (hn:n≤50000) (hk:n≤k) (hv:stP v q c now seq X=true) (h1:now≤td) (h2:td≤16777216) (w:World) (hS:SG cM w A n X) :
    Calls Tryz.prog 8 #[.agg #[.int .i64 v,.int .i64 q,.int .i64 c,.int .i64 now,.int .i64 seq,.slice A n k],.int .i64 td] w fun e w'=>∃ A' n' k',e=.returned (.tuple #[.agg #[.int .i64 v,.int .i64 q,.int .i64 c,.int .i64 td,.int .i64 seq,.slice A' n' k'],.int .i64 0])∧n'≤n∧n'≤k'∧Up w w'∧SG cM w' A' n' (drM td v X):=by
  have KV:=Lib.hid (fun W (h:SG cM W A n X)=>rvalidate14_up v q c now seq n k A X hn W h)
  rw [stPE_yes hv] at KV
  have HS:=Lib.hid hS
  have KB:=Lib.hid (rback_any now td)
  rw [backE_yes h1 h2] at KB
  have KD:=Lib.hid (fun W (h:Up w W)=>rdrop_up n k A X td v hn hk w W hS h)
  clear hS hv h1 h2
  generalize drM td v X=Z at *
  go_enter Tryz.func8,Tryz.ntmps8
  go_wp2_with (first
    | (go_at_call 14;(with_reducible refine (KV.out _ (HS.out.up (((Up.refl w).alloc _ _).alloc _ _))).mono ?_);rintro e w1 ⟨rfl,hu⟩;have hv:=(((Up.refl w).alloc #[.int .i64 v,.int .i64 q,.int .i64 c,.int .i64 now,.int .i64 seq,.slice A n k] 24).alloc #[.int .i64 0,.int .i64 0,.int .i64 0,.int .i64 0,.int .i64 0,.slice none 0 0] 24).trans hu;have HV1:=Lib.hid hv;have HU1:=Lib.hid ((Up.refl w).trans hv);have a_1_0:=hu.keep (w.heap.size) 0 (.int .i64 v) (by simp [go_sem]);have a_1_1:=hu.keep (w.heap.size) 1 (.int .i64 q) (by simp [go_sem]);have a_1_2:=hu.keep (w.heap.size) 2 (.int .i64 c) (by simp [go_sem]);have a_1_3:=hu.keep (w.heap.size) 3 (.int .i64 now) (by simp [go_sem]);have a_1_4:=hu.keep (w.heap.size) 4 (.int .i64 seq) (by simp [go_sem]);have a_1_5:=hu.keep (w.heap.size) 5 (.slice A n k) (by simp [go_sem]);have r_1_0:=hu.keep (w.heap.size+1) 0 (.int .i64 0) (by simp [go_sem]);have r_1_1:=hu.keep (w.heap.size+1) 1 (.int .i64 0) (by simp [go_sem]);have r_1_2:=hu.keep (w.heap.size+1) 2 (.int .i64 0) (by simp [go_sem]);have r_1_3:=hu.keep (w.heap.size+1) 3 (.int .i64 0) (by simp [go_sem]);have r_1_4:=hu.keep (w.heap.size+1) 4 (.int .i64 0) (by simp [go_sem]);have r_1_5:=hu.keep (w.heap.size+1) 5 (.slice none 0 0) (by simp [go_sem]);have la1:=World.block_lt_of_cell? _ _ a_1_0;have lr1:=World.block_lt_of_cell? _ _ r_1_0;clear hu hv )
    | (go_at_call 29;(with_reducible refine (KB.out _).mono ?_);rintro e w2 ⟨rfl,rfl⟩)
    | (go_at_call 30;(with_reducible refine (KD.out _ HU1.out).mono ?_);rintro e w2 ⟨A2,n2,k2,rfl,hn2,hk2,hu,hM⟩;have hv:=(Up.refl w1).trans hu;have HV2:=Lib.hid hv;have HU2:=Lib.hid (HU1.out.trans hv);have a_2_0:=hv.keep _ _ _ a_1_0;have a_2_1:=hv.keep _ _ _ a_1_1;have a_2_2:=hv.keep _ _ _ a_1_2;have a_2_3:=hv.keep _ _ _ a_1_3;have a_2_4:=hv.keep _ _ _ a_1_4;have a_2_5:=hv.keep _ _ _ a_1_5;have r_2_0:=hv.keep _ _ _ r_1_0;have r_2_1:=hv.keep _ _ _ r_1_1;have r_2_2:=hv.keep _ _ _ r_1_2;have r_2_3:=hv.keep _ _ _ r_1_3;have r_2_4:=hv.keep _ _ _ r_1_4;have r_2_5:=hv.keep _ _ _ r_1_5;have la2:=World.block_lt_of_cell? _ _ a_2_0;have lr2:=World.block_lt_of_cell? _ _ r_2_0;have z0:=HU2.out.ownGe (g:=w.heap.size+1) (by omega) 0;have z1:=HU2.out.ownGe (g:=w.heap.size+1) (by omega) 1;have z2:=HU2.out.ownGe (g:=w.heap.size+1) (by omega) 2;have z3:=HU2.out.ownGe (g:=w.heap.size+1) (by omega) 3;have z4:=HU2.out.ownGe (g:=w.heap.size+1) (by omega) 4;have z5:=HU2.out.ownGe (g:=w.heap.size+1) (by omega) 5;have y0:=HU2.out.ownGe (g:=w.heap.size) (by omega) 0;have y1:=HU2.out.ownGe (g:=w.heap.size) (by omega) 1;have y2:=HU2.out.ownGe (g:=w.heap.size) (by omega) 2;have y3:=HU2.out.ownGe (g:=w.heap.size) (by omega) 3;have y4:=HU2.out.ownGe (g:=w.heap.size) (by omega) 4;have y5:=HU2.out.ownGe (g:=w.heap.size) (by omega) 5;have HM:=Lib.hid hM;clear hM;clear hu hv la1 a_1_0 a_1_1 a_1_2 a_1_3 a_1_4 a_1_5 lr1 r_1_0 r_1_1 r_1_2 r_1_3 r_1_4 r_1_5))
  refine bodyPost_ret (v:=.tuple #[.agg #[.int .i64 v,.int .i64 q,.int .i64 c,.int .i64 td,.int .i64 seq,.slice A2 n2 k2],.int .i64 0]) (by simp [results,Tryz.results8,go_sem,r_2_0,r_2_1,r_2_2,r_2_3,r_2_4,r_2_5]) rfl ⟨A2,n2,k2,rfl,hn2,hk2,?_,?_⟩
  · exact ((HU2.out.setCell (Nat.le_refl _) _).setCell (Nat.le_refl _) _).setP6 (by omega)
  · exact HM.out.up (((HU2.out.setCell (Nat.le_refl _) _).setCell (Nat.le_refl _) _).setP6 (by omega))
end Go.Proofs.YtafkoddgefcpnaaGreat

namespace Go.Proofs.YtafkoddgefcpnaaGreat
open Go.RowKit
set_option linter.unusedVariables false

set_option maxHeartbeats 4000000 in
set_option maxRecDepth 100000 in
theorem add14_bad (v q c now seq d:Int) (n k:Nat) (A:Option Addr) (X:List Mrk) (hn:n≤50000) (hk:n≤k) (hv:stP v q c now seq X=false) (w:World) (hS:SG cM w A n X) :
    Calls Tryz.prog 9 #[.agg #[.int .i64 v,.int .i64 q,.int .i64 c,.int .i64 now,.int .i64 seq,.slice A n k],.int .i64 d] w fun e w'=>e=.returned (.tuple #[.agg #[.int .i64 0,.int .i64 0,.int .i64 0,.int .i64 0,.int .i64 0,.slice none 0 0],.int .i64 2])∧Up w w':=by
  have KV:=Lib.hid (fun W (h:SG cM W A n X)=>validate14_up v q c now seq n k A X hn W h)
  rw [stPE_no hv] at KV
  have HS:=Lib.hid hS
  clear hS hv
  go_enter Tryz.func9,Tryz.ntmps9
  go_wp2_with (first
    | (go_at_call 13;(with_reducible refine (KV.out _ (HS.out.up (((Up.refl w).alloc _ _).alloc _ _))).mono ?_);rintro e w1 ⟨rfl,hu⟩;have hv:=(((Up.refl w).alloc #[.int .i64 v,.int .i64 q,.int .i64 c,.int .i64 now,.int .i64 seq,.slice A n k] 24).alloc #[.int .i64 0,.int .i64 0,.int .i64 0,.int .i64 0,.int .i64 0,.slice none 0 0] 24).trans hu;have HV1:=Lib.hid hv;have HU1:=Lib.hid ((Up.refl w).trans hv);have a_1_0:=hu.keep (w.heap.size) 0 (.int .i64 v) (by simp [go_sem]);have a_1_1:=hu.keep (w.heap.size) 1 (.int .i64 q) (by simp [go_sem]);have a_1_2:=hu.keep (w.heap.size) 2 (.int .i64 c) (by simp [go_sem]);have a_1_3:=hu.keep (w.heap.size) 3 (.int .i64 now) (by simp [go_sem]);have a_1_4:=hu.keep (w.heap.size) 4 (.int .i64 seq) (by simp [go_sem]);have a_1_5:=hu.keep (w.heap.size) 5 (.slice A n k) (by simp [go_sem]);have r_1_0:=hu.keep (w.heap.size+1) 0 (.int .i64 0) (by simp [go_sem]);have r_1_1:=hu.keep (w.heap.size+1) 1 (.int .i64 0) (by simp [go_sem]);have r_1_2:=hu.keep (w.heap.size+1) 2 (.int .i64 0) (by simp [go_sem]);have r_1_3:=hu.keep (w.heap.size+1) 3 (.int .i64 0) (by simp [go_sem]);have r_1_4:=hu.keep (w.heap.size+1) 4 (.int .i64 0) (by simp [go_sem]);have r_1_5:=hu.keep (w.heap.size+1) 5 (.slice none 0 0) (by simp [go_sem]);have la1:=World.block_lt_of_cell? _ _ a_1_0;have lr1:=World.block_lt_of_cell? _ _ r_1_0;have z0:=HU1.out.ownGe (g:=w.heap.size+1) (by omega) 0;have z1:=HU1.out.ownGe (g:=w.heap.size+1) (by omega) 1;have z2:=HU1.out.ownGe (g:=w.heap.size+1) (by omega) 2;have z3:=HU1.out.ownGe (g:=w.heap.size+1) (by omega) 3;have z4:=HU1.out.ownGe (g:=w.heap.size+1) (by omega) 4;have z5:=HU1.out.ownGe (g:=w.heap.size+1) (by omega) 5;clear hu hv ))
  refine bodyPost_ret (v:=.tuple #[.agg #[.int .i64 0,.int .i64 0,.int .i64 0,.int .i64 0,.int .i64 0,.slice none 0 0],.int .i64 2]) (by simp [results,Tryz.results9,go_sem,r_1_0,r_1_1,r_1_2,r_1_3,r_1_4,r_1_5]) rfl ⟨rfl,?_⟩
  exact HU1.out.setP6 (by omega)

set_option maxHeartbeats 4000000 in
set_option maxRecDepth 100000 in
theorem add14_range (v q c now seq d:Int) (n k:Nat) (A:Option Addr) (X:List Mrk) (hn:n≤50000) (hk:n≤k) (hv:stP v q c now seq X=true) (hd:¬ valG 4 d) (w:World) (hS:SG cM w A n X) :
    Calls Tryz.prog 9 #[.agg #[.int .i64 v,.int .i64 q,.int .i64 c,.int .i64 now,.int .i64 seq,.slice A n k],.int .i64 d] w fun e w'=>e=.returned (.tuple #[.agg #[.int .i64 0,.int .i64 0,.int .i64 0,.int .i64 0,.int .i64 0,.slice none 0 0],.int .i64 4])∧Up w w':=by
  have KV:=Lib.hid (fun W (h:SG cM W A n X)=>validate14_up v q c now seq n k A X hn W h)
  rw [stPE_yes hv] at KV
  have HS:=Lib.hid hS
  have KT:=Lib.hid (toSmooth_up v q c now seq n k A)
  have KN:=Lib.hid (closeness_up q)
  have KA:=Lib.hid (fun (b1:Nat) W (hu:Up w W) (hb:W.cell? ⟨b1,0,none⟩=some (.int .i64 q))=>maddS_range b1 4 v q c now seq d n k A (by omega) hd W)
  have KF:=Lib.hid (fromSmooth_up 0 0 0 0 0 0 0 0 none)
  clear hS hv hd
  go_enter Tryz.func9,Tryz.ntmps9
  go_upto_region 4 with (go_at_call 13;(with_reducible refine (KV.out _ (HS.out.up (((Up.refl w).alloc _ _).alloc _ _))).mono ?_);rintro e w1 ⟨rfl,hu⟩;have hv:=(((Up.refl w).alloc #[.int .i64 v,.int .i64 q,.int .i64 c,.int .i64 now,.int .i64 seq,.slice A n k] 24).alloc #[.int .i64 0,.int .i64 0,.int .i64 0,.int .i64 0,.int .i64 0,.slice none 0 0] 24).trans hu;have HV1:=Lib.hid hv;have HU1:=Lib.hid ((Up.refl w).trans hv);have a_1_0:=hu.keep (w.heap.size) 0 (.int .i64 v) (by simp [go_sem]);have a_1_1:=hu.keep (w.heap.size) 1 (.int .i64 q) (by simp [go_sem]);have a_1_2:=hu.keep (w.heap.size) 2 (.int .i64 c) (by simp [go_sem]);have a_1_3:=hu.keep (w.heap.size) 3 (.int .i64 now) (by simp [go_sem]);have a_1_4:=hu.keep (w.heap.size) 4 (.int .i64 seq) (by simp [go_sem]);have a_1_5:=hu.keep (w.heap.size) 5 (.slice A n k) (by simp [go_sem]);have r_1_0:=hu.keep (w.heap.size+1) 0 (.int .i64 0) (by simp [go_sem]);have r_1_1:=hu.keep (w.heap.size+1) 1 (.int .i64 0) (by simp [go_sem]);have r_1_2:=hu.keep (w.heap.size+1) 2 (.int .i64 0) (by simp [go_sem]);have r_1_3:=hu.keep (w.heap.size+1) 3 (.int .i64 0) (by simp [go_sem]);have r_1_4:=hu.keep (w.heap.size+1) 4 (.int .i64 0) (by simp [go_sem]);have r_1_5:=hu.keep (w.heap.size+1) 5 (.slice none 0 0) (by simp [go_sem]);have la1:=World.block_lt_of_cell? _ _ a_1_0;have lr1:=World.block_lt_of_cell? _ _ r_1_0;clear hu hv )
  have HSS:Hid (Up w w1∧w1.cell? ⟨w.heap.size,0,none⟩=some (.int .i64 v)∧w1.cell? ⟨w.heap.size,1,none⟩=some (.int .i64 q)∧w1.cell? ⟨w.heap.size,2,none⟩=some (.int .i64 c)∧w1.cell? ⟨w.heap.size,3,none⟩=some (.int .i64 now)∧w1.cell? ⟨w.heap.size,4,none⟩=some (.int .i64 seq)∧w1.cell? ⟨w.heap.size,5,none⟩=some (.slice A n k)):=Lib.hid ⟨HU1.out,a_1_0,a_1_1,a_1_2,a_1_3,a_1_4,a_1_5⟩
  have HW:=Lib.hid HU1.out.drew
  clear a_1_0 a_1_1 a_1_2 a_1_3 a_1_4 a_1_5
  go_wp2_with fail
  refine wp_region_held_drew (S:=fun w'=>Up w w'∧w'.cell? ⟨w.heap.size,0,none⟩=some (.int .i64 v)∧w'.cell? ⟨w.heap.size,1,none⟩=some (.int .i64 q)∧w'.cell? ⟨w.heap.size,2,none⟩=some (.int .i64 c)∧w'.cell? ⟨w.heap.size,3,none⟩=some (.int .i64 now)∧w'.cell? ⟨w.heap.size,4,none⟩=some (.int .i64 seq)∧w'.cell? ⟨w.heap.size,5,none⟩=some (.slice A n k)) (by kernel_rfl) ?hB1 (fun hHeld=>?_)
  case hB1=>(with_reducible exact keepL6 (Lib.hid (Up.refl _).drew) HSS.out)
  refine takeT 0 rfl (by assumption) ?_
  (try simp only [Act.put,stpA,stpB,stpC])
  refine takeT 2 rfl (by assumption) ?_
  (try simp only [Act.put,stpA,stpB,stpC])
  refine takeT 3 rfl (by assumption) ?_
  (try simp only [Act.put,stpA,stpB,stpC])
  refine takeT 4 rfl (by assumption) ?_
  (try simp only [Act.put,stpA,stpB,stpC])
  refine wpAnyH_ready (rs:=[1,10]) (by kernel_rfl) (by simp) ?_
  refine AllReadyH.cons (o:=⟨_,_,_,_,_,_⟩) rfl (fun K hK=>?_) (AllReadyH.cons (o:=⟨_,_,_,_,_,_⟩) rfl (fun K hK=>?_) (AllReadyH.nil))
  · go_simp
    (go_at_call 27;(with_reducible refine (KT.out _).mono ?_);rintro e w2 ⟨rfl,hu⟩;have HW:=Lib.hid (HW.out.trans hu);have HX:=Lib.hid (keepL6 (Lib.hid hu) hHeld);have r_1_0:=hu.keep _ _ _ r_1_0;have r_1_1:=hu.keep _ _ _ r_1_1;have r_1_2:=hu.keep _ _ _ r_1_2;have r_1_3:=hu.keep _ _ _ r_1_3;have r_1_4:=hu.keep _ _ _ r_1_4;have r_1_5:=hu.keep _ _ _ r_1_5;clear hu)
    (try go_wp2_with fail)
    refine hK.out _ _ ?hB6 (fun hHeld=>?_)
    case hB6=>(with_reducible exact HX.out)
    clear hK K
    (try simp only [Act.put,stpA,stpB,stpC])
    refine wpAnyH_ready (rs:=[5,10]) (by kernel_rfl) (by simp) ?_
    refine AllReadyH.cons (o:=⟨_,_,_,_,_,_⟩) rfl (fun K hK=>?_) (AllReadyH.cons (o:=⟨_,_,_,_,_,_⟩) rfl (fun K hK=>?_) (AllReadyH.nil))
    · go_simp
      (go_at_call 32;(with_reducible refine (KN.out _).mono ?_);rintro e w3 ⟨xb,rfl,hu,cb⟩;have HW:=Lib.hid (HW.out.trans hu);have HX:=Lib.hid (keepL6 (Lib.hid hu) hHeld);have r_1_0:=hu.keep _ _ _ r_1_0;have r_1_1:=hu.keep _ _ _ r_1_1;have r_1_2:=hu.keep _ _ _ r_1_2;have r_1_3:=hu.keep _ _ _ r_1_3;have r_1_4:=hu.keep _ _ _ r_1_4;have r_1_5:=hu.keep _ _ _ r_1_5;have CB:=Lib.hid cb;clear cb;clear hu)
      (try go_wp2_with fail)
      refine hK.out _ _ ?hB7 (fun hHeld=>?_)
      case hB7=>(with_reducible exact HX.out)
      clear hK K
      (try simp only [Act.put,stpA,stpB,stpC])
      refine wpAnyH_ready (rs:=[6,10]) (by kernel_rfl) (by simp) ?_
      refine AllReadyH.cons (o:=⟨_,_,_,_,_,_⟩) rfl (fun K hK=>?_) (AllReadyH.cons (o:=⟨_,_,_,_,_,_⟩) rfl (fun K hK=>?_) (AllReadyH.nil))
      · go_simp
        (go_at_call 31;(with_reducible refine (KA.out xb _ hHeld.1 CB.out).mono ?_);have hlr_:=World.block_lt_of_cell? _ _ r_1_0;have hsz_:=hHeld.1.size;rintro e w4 ⟨rfl,hu⟩;have HW:=Lib.hid (HW.out.trans hu);have HX:=Lib.hid (keepL6 (Lib.hid hu) hHeld);have r_1_0:=hu.keep _ _ _ r_1_0;have r_1_1:=hu.keep _ _ _ r_1_1;have r_1_2:=hu.keep _ _ _ r_1_2;have r_1_3:=hu.keep _ _ _ r_1_3;have r_1_4:=hu.keep _ _ _ r_1_4;have r_1_5:=hu.keep _ _ _ r_1_5;clear hu)
        (try go_wp2_with fail)
        refine hK.out _ _ ?hB8 (fun hHeld=>?_)
        case hB8=>(with_reducible exact HX.out)
        clear hK K
        (try simp only [Act.put,stpA,stpB,stpC])
        refine takeT 7 rfl (by assumption) ?_
        (try simp only [Act.put,stpA,stpB,stpC])
        refine takeT 8 rfl (by assumption) ?_
        (try simp only [Act.put,stpA,stpB,stpC])
        refine takeT 9 rfl (by assumption) ?_
        (try simp only [Act.put,stpA,stpB,stpC])
        refine wpAnyH_ready (rs:=[10]) (by kernel_rfl) (by simp) ?_
        refine AllReadyH.cons (o:=⟨_,_,_,_,_,_⟩) rfl (fun K hK=>?_) (AllReadyH.nil)
        go_simp
        refine hK.out _ _ ?hB12 (fun hHeld=>?_)
        case hB12=>(with_reducible exact keepL6 (Lib.hid ((Up.refl _).alloc _ _)) HX.out)
        clear hK K
        (try simp only [Act.put,stpA,stpB,stpC])
        refine wpAnyH_ready (rs:=[11]) (by kernel_rfl) (by simp) ?_
        refine AllReadyH.cons (o:=⟨_,_,_,_,_,_⟩) rfl (fun K hK=>?_) (AllReadyH.nil)
        go_simp
        refine hK.out _ _ ?hB13 (fun hHeld=>?_)
        case hB13=>(with_reducible exact keepL6 (Lib.hid ((Up.refl _).alloc _ _)) HX.out)
        clear hK K
        (try simp only [Act.put,stpA,stpB,stpC])
        refine takeT 12 rfl (by assumption) ?_
        (try simp only [Act.put,stpA,stpB,stpC])
        refine wpAnyH_done (by kernel_rfl) ?_ _
        have hlt_:w.heap.size+1<w4.heap.size:=World.block_lt_of_cell? _ _ r_1_0
        obtain ⟨wa,hwa⟩:∃ z,z=w4.alloc (.cells #[.int .i64 0,.int .i64 0,.int .i64 0,.int .i64 0,.int .i64 0,.int .i64 0,.slice none 0 0] 58):=⟨_,rfl⟩
        rw [← hwa]
        have hv:Up w4 wa:=by rw [hwa];exact (Up.refl _).alloc _ _
        have g0:wa.cell? ⟨w4.heap.size,0,none⟩=some (.int .i64 0):=by rw [hwa];simp [go_sem]
        have g1:wa.cell? ⟨w4.heap.size,1,none⟩=some (.int .i64 0):=by rw [hwa];simp [go_sem]
        have g2:wa.cell? ⟨w4.heap.size,2,none⟩=some (.int .i64 0):=by rw [hwa];simp [go_sem]
        have g3:wa.cell? ⟨w4.heap.size,3,none⟩=some (.int .i64 0):=by rw [hwa];simp [go_sem]
        have g4:wa.cell? ⟨w4.heap.size,4,none⟩=some (.int .i64 0):=by rw [hwa];simp [go_sem]
        have g5:wa.cell? ⟨w4.heap.size,5,none⟩=some (.int .i64 0):=by rw [hwa];simp [go_sem]
        have g6:wa.cell? ⟨w4.heap.size,6,none⟩=some (.slice none 0 0):=by rw [hwa];simp [go_sem]
        have r_1_0:=hv.keep _ _ _ r_1_0
        have r_1_1:=hv.keep _ _ _ r_1_1
        have r_1_2:=hv.keep _ _ _ r_1_2
        have r_1_3:=hv.keep _ _ _ r_1_3
        have r_1_4:=hv.keep _ _ _ r_1_4
        have r_1_5:=hv.keep _ _ _ r_1_5
        have HW:=Lib.hid (HW.out.trans hv)
        clear hwa hv HX HSS hHeld
        have hlra:=World.block_lt_of_cell? _ _ r_1_0
        go_wp2_with (go_at_call 28;(with_reducible refine (KF.out _).mono ?_);rintro e w5 ⟨rfl,hu⟩;have HW:=Lib.hid (HW.out.trans hu);have r_1_0:=hu.keep _ _ _ r_1_0;have r_1_1:=hu.keep _ _ _ r_1_1;have r_1_2:=hu.keep _ _ _ r_1_2;have r_1_3:=hu.keep _ _ _ r_1_3;have r_1_4:=hu.keep _ _ _ r_1_4;have r_1_5:=hu.keep _ _ _ r_1_5;have z0:=HW.out.ownGe (g:=w.heap.size+1) (by omega) 0;have z1:=HW.out.ownGe (g:=w.heap.size+1) (by omega) 1;have z2:=HW.out.ownGe (g:=w.heap.size+1) (by omega) 2;have z3:=HW.out.ownGe (g:=w.heap.size+1) (by omega) 3;have z4:=HW.out.ownGe (g:=w.heap.size+1) (by omega) 4;have z5:=HW.out.ownGe (g:=w.heap.size+1) (by omega) 5;clear hu)
        refine bodyPost_ret (v:=.tuple #[.agg #[.int .i64 0,.int .i64 0,.int .i64 0,.int .i64 0,.int .i64 0,.slice none 0 0],.int .i64 4]) (by simp [results,Tryz.results9,go_sem,r_1_0,r_1_1,r_1_2,r_1_3,r_1_4,r_1_5]) rfl ⟨rfl,?_⟩
        exact HW.out.setP6 (by omega)
      · have hlt_:w.heap.size+1<w3.heap.size:=World.block_lt_of_cell? _ _ r_1_0
        have g0:(w3.alloc (.cells #[.int .i64 0,.int .i64 0,.int .i64 0,.int .i64 0,.int .i64 0,.int .i64 0,.slice none 0 0] 58)).cell? ⟨w3.heap.size,0,none⟩=some (.int .i64 0):=by simp [go_sem]
        have g1:(w3.alloc (.cells #[.int .i64 0,.int .i64 0,.int .i64 0,.int .i64 0,.int .i64 0,.int .i64 0,.slice none 0 0] 58)).cell? ⟨w3.heap.size,1,none⟩=some (.int .i64 0):=by simp [go_sem]
        have g2:(w3.alloc (.cells #[.int .i64 0,.int .i64 0,.int .i64 0,.int .i64 0,.int .i64 0,.int .i64 0,.slice none 0 0] 58)).cell? ⟨w3.heap.size,2,none⟩=some (.int .i64 0):=by simp [go_sem]
        have g3:(w3.alloc (.cells #[.int .i64 0,.int .i64 0,.int .i64 0,.int .i64 0,.int .i64 0,.int .i64 0,.slice none 0 0] 58)).cell? ⟨w3.heap.size,3,none⟩=some (.int .i64 0):=by simp [go_sem]
        have g4:(w3.alloc (.cells #[.int .i64 0,.int .i64 0,.int .i64 0,.int .i64 0,.int .i64 0,.int .i64 0,.slice none 0 0] 58)).cell? ⟨w3.heap.size,4,none⟩=some (.int .i64 0):=by simp [go_sem]
        have g5:(w3.alloc (.cells #[.int .i64 0,.int .i64 0,.int .i64 0,.int .i64 0,.int .i64 0,.int .i64 0,.slice none 0 0] 58)).cell? ⟨w3.heap.size,5,none⟩=some (.int .i64 0):=by simp [go_sem]
        have g6:(w3.alloc (.cells #[.int .i64 0,.int .i64 0,.int .i64 0,.int .i64 0,.int .i64 0,.int .i64 0,.slice none 0 0] 58)).cell? ⟨w3.heap.size,6,none⟩=some (.slice none 0 0):=by simp [go_sem]
        have r_1_0:=((Up.refl w3).alloc #[.int .i64 0,.int .i64 0,.int .i64 0,.int .i64 0,.int .i64 0,.int .i64 0,.slice none 0 0] 58).keep _ _ _ r_1_0
        have r_1_1:=((Up.refl w3).alloc #[.int .i64 0,.int .i64 0,.int .i64 0,.int .i64 0,.int .i64 0,.int .i64 0,.slice none 0 0] 58).keep _ _ _ r_1_1
        have r_1_2:=((Up.refl w3).alloc #[.int .i64 0,.int .i64 0,.int .i64 0,.int .i64 0,.int .i64 0,.int .i64 0,.slice none 0 0] 58).keep _ _ _ r_1_2
        have r_1_3:=((Up.refl w3).alloc #[.int .i64 0,.int .i64 0,.int .i64 0,.int .i64 0,.int .i64 0,.int .i64 0,.slice none 0 0] 58).keep _ _ _ r_1_3
        have r_1_4:=((Up.refl w3).alloc #[.int .i64 0,.int .i64 0,.int .i64 0,.int .i64 0,.int .i64 0,.int .i64 0,.slice none 0 0] 58).keep _ _ _ r_1_4
        have r_1_5:=((Up.refl w3).alloc #[.int .i64 0,.int .i64 0,.int .i64 0,.int .i64 0,.int .i64 0,.int .i64 0,.slice none 0 0] 58).keep _ _ _ r_1_5
        have HW:=Lib.hid (HW.out.alloc #[.int .i64 0,.int .i64 0,.int .i64 0,.int .i64 0,.int .i64 0,.int .i64 0,.slice none 0 0] 58)
        have CB:=Lib.hid (((Up.refl w3).alloc #[.int .i64 0,.int .i64 0,.int .i64 0,.int .i64 0,.int .i64 0,.int .i64 0,.slice none 0 0] 58).keep _ _ _ CB.out)
        go_simp
        refine hK.out _ _ ?hB15 (fun hHeld=>?_)
        case hB15=>(with_reducible exact keepL6 (Lib.hid ((Up.refl _).alloc _ _)) hHeld)
        clear hK K
        (try simp only [Act.put,stpA,stpB,stpC])
        refine wpAnyH_ready (rs:=[6]) (by kernel_rfl) (by simp) ?_
        refine AllReadyH.cons (o:=⟨_,_,_,_,_,_⟩) rfl (fun K hK=>?_) (AllReadyH.nil)
        go_simp
        (go_at_call 31;(with_reducible refine (KA.out xb _ hHeld.1 CB.out).mono ?_);have hlr_:=World.block_lt_of_cell? _ _ r_1_0;have hsz_:=hHeld.1.size;have htb_:=World.block_lt_of_cell? _ _ g0;rintro e w4 ⟨rfl,hu⟩;have HW:=Lib.hid (HW.out.trans hu);have HX:=Lib.hid (keepL6 (Lib.hid hu) hHeld);have r_1_0:=hu.keep _ _ _ r_1_0;have r_1_1:=hu.keep _ _ _ r_1_1;have r_1_2:=hu.keep _ _ _ r_1_2;have r_1_3:=hu.keep _ _ _ r_1_3;have r_1_4:=hu.keep _ _ _ r_1_4;have r_1_5:=hu.keep _ _ _ r_1_5;have g0:=hu.keep _ _ _ g0;have g1:=hu.keep _ _ _ g1;have g2:=hu.keep _ _ _ g2;have g3:=hu.keep _ _ _ g3;have g4:=hu.keep _ _ _ g4;have g5:=hu.keep _ _ _ g5;have g6:=hu.keep _ _ _ g6;have fz0:=HW.out.ownGe (g:=w3.heap.size) (by omega) 0;have fz1:=HW.out.ownGe (g:=w3.heap.size) (by omega) 1;have fz2:=HW.out.ownGe (g:=w3.heap.size) (by omega) 2;have fz3:=HW.out.ownGe (g:=w3.heap.size) (by omega) 3;have fz4:=HW.out.ownGe (g:=w3.heap.size) (by omega) 4;have fz5:=HW.out.ownGe (g:=w3.heap.size) (by omega) 5;have fz6:=HW.out.ownGe (g:=w3.heap.size) (by omega) 6;clear hu)
        (try go_wp2_with fail)
        refine hK.out _ _ ?hB16 (fun hHeld=>?_)
        case hB16=>(with_reducible exact HX.out)
        clear hK K
        (try simp only [Act.put,stpA,stpB,stpC])
        refine takeT 7 rfl (by assumption) ?_
        (try simp only [Act.put,stpA,stpB,stpC])
        refine takeT 8 rfl (by assumption) ?_
        (try simp only [Act.put,stpA,stpB,stpC])
        refine takeT 9 rfl (by assumption) ?_
        (try simp only [Act.put,stpA,stpB,stpC])
        refine wpAnyH_ready (rs:=[11]) (by kernel_rfl) (by simp) ?_
        refine AllReadyH.cons (o:=⟨_,_,_,_,_,_⟩) rfl (fun K hK=>?_) (AllReadyH.nil)
        go_simp
        refine hK.out _ _ ?hB20 (fun hHeld=>?_)
        case hB20=>(with_reducible exact set7L6 hHeld (by omega) (by omega))
        clear hK K
        (try simp only [Act.put,stpA,stpB,stpC])
        refine takeT 12 rfl (by assumption) ?_
        (try simp only [Act.put,stpA,stpB,stpC])
        refine wpAnyH_done (by kernel_rfl) ?_ _
        obtain ⟨wa,hwa⟩:∃ z,z=((((((w4.setCell ⟨w3.heap.size,0,none⟩ (.int .i64 0)).setCell ⟨w3.heap.size,1,none⟩ (.int .i64 0)).setCell ⟨w3.heap.size,2,none⟩ (.int .i64 0)).setCell ⟨w3.heap.size,3,none⟩ (.int .i64 0)).setCell ⟨w3.heap.size,4,none⟩ (.int .i64 0)).setCell ⟨w3.heap.size,5,none⟩ (.int .i64 0)).setCell ⟨w3.heap.size,6,none⟩ (.slice none 0 0):=⟨_,rfl⟩
        rw [← hwa]
        obtain ⟨g0_,g1_,g2_,g3_,g4_,g5_,g6_⟩:=cells7 (w:=w4) (p:=w3.heap.size) (v0:=.int .i64 0) (v1:=.int .i64 0) (v2:=.int .i64 0) (v3:=.int .i64 0) (v4:=.int .i64 0) (v5:=.int .i64 0) (v6:=.slice none 0 0) g0 g1 g2 g3 g4 g5 g6
        rw [← hwa] at g0_ g1_ g2_ g3_ g4_ g5_ g6_
        have r_1_0_:wa.cell? ⟨w.heap.size+1,0,none⟩=some (.int .i64 0):=by rw [hwa];exact far7 (w:=w4) r_1_0 (by omega)
        have r_1_1_:wa.cell? ⟨w.heap.size+1,1,none⟩=some (.int .i64 0):=by rw [hwa];exact far7 (w:=w4) r_1_1 (by omega)
        have r_1_2_:wa.cell? ⟨w.heap.size+1,2,none⟩=some (.int .i64 0):=by rw [hwa];exact far7 (w:=w4) r_1_2 (by omega)
        have r_1_3_:wa.cell? ⟨w.heap.size+1,3,none⟩=some (.int .i64 0):=by rw [hwa];exact far7 (w:=w4) r_1_3 (by omega)
        have r_1_4_:wa.cell? ⟨w.heap.size+1,4,none⟩=some (.int .i64 0):=by rw [hwa];exact far7 (w:=w4) r_1_4 (by omega)
        have r_1_5_:wa.cell? ⟨w.heap.size+1,5,none⟩=some (.slice none 0 0):=by rw [hwa];exact far7 (w:=w4) r_1_5 (by omega)
        have HW:=Lib.hid (show Up w wa by rw [hwa];exact HW.out.set7 (by omega))
        clear hwa HX HSS hHeld fz0 fz1 fz2 fz3 fz4 fz5 fz6 g0 g1 g2 g3 g4 g5 g6 r_1_0 r_1_1 r_1_2 r_1_3 r_1_4 r_1_5
        have g0:=g0_
        have g1:=g1_
        have g2:=g2_
        have g3:=g3_
        have g4:=g4_
        have g5:=g5_
        have g6:=g6_
        have r_1_0:=r_1_0_
        have r_1_1:=r_1_1_
        have r_1_2:=r_1_2_
        have r_1_3:=r_1_3_
        have r_1_4:=r_1_4_
        have r_1_5:=r_1_5_
        have hlra:=World.block_lt_of_cell? _ _ r_1_0
        go_wp2_with (go_at_call 28;(with_reducible refine (KF.out _).mono ?_);rintro e w5 ⟨rfl,hu⟩;have HW:=Lib.hid (HW.out.trans hu);have r_1_0:=hu.keep _ _ _ r_1_0;have r_1_1:=hu.keep _ _ _ r_1_1;have r_1_2:=hu.keep _ _ _ r_1_2;have r_1_3:=hu.keep _ _ _ r_1_3;have r_1_4:=hu.keep _ _ _ r_1_4;have r_1_5:=hu.keep _ _ _ r_1_5;have z0:=HW.out.ownGe (g:=w.heap.size+1) (by omega) 0;have z1:=HW.out.ownGe (g:=w.heap.size+1) (by omega) 1;have z2:=HW.out.ownGe (g:=w.heap.size+1) (by omega) 2;have z3:=HW.out.ownGe (g:=w.heap.size+1) (by omega) 3;have z4:=HW.out.ownGe (g:=w.heap.size+1) (by omega) 4;have z5:=HW.out.ownGe (g:=w.heap.size+1) (by omega) 5;clear hu)
        refine bodyPost_ret (v:=.tuple #[.agg #[.int .i64 0,.int .i64 0,.int .i64 0,.int .i64 0,.int .i64 0,.slice none 0 0],.int .i64 4]) (by simp [results,Tryz.results9,go_sem,r_1_0,r_1_1,r_1_2,r_1_3,r_1_4,r_1_5]) rfl ⟨rfl,?_⟩
        exact HW.out.setP6 (by omega)
    · have hlt_:w.heap.size+1<w2.heap.size:=World.block_lt_of_cell? _ _ r_1_0
      have g0:(w2.alloc (.cells #[.int .i64 0,.int .i64 0,.int .i64 0,.int .i64 0,.int .i64 0,.int .i64 0,.slice none 0 0] 58)).cell? ⟨w2.heap.size,0,none⟩=some (.int .i64 0):=by simp [go_sem]
      have g1:(w2.alloc (.cells #[.int .i64 0,.int .i64 0,.int .i64 0,.int .i64 0,.int .i64 0,.int .i64 0,.slice none 0 0] 58)).cell? ⟨w2.heap.size,1,none⟩=some (.int .i64 0):=by simp [go_sem]
      have g2:(w2.alloc (.cells #[.int .i64 0,.int .i64 0,.int .i64 0,.int .i64 0,.int .i64 0,.int .i64 0,.slice none 0 0] 58)).cell? ⟨w2.heap.size,2,none⟩=some (.int .i64 0):=by simp [go_sem]
      have g3:(w2.alloc (.cells #[.int .i64 0,.int .i64 0,.int .i64 0,.int .i64 0,.int .i64 0,.int .i64 0,.slice none 0 0] 58)).cell? ⟨w2.heap.size,3,none⟩=some (.int .i64 0):=by simp [go_sem]
      have g4:(w2.alloc (.cells #[.int .i64 0,.int .i64 0,.int .i64 0,.int .i64 0,.int .i64 0,.int .i64 0,.slice none 0 0] 58)).cell? ⟨w2.heap.size,4,none⟩=some (.int .i64 0):=by simp [go_sem]
      have g5:(w2.alloc (.cells #[.int .i64 0,.int .i64 0,.int .i64 0,.int .i64 0,.int .i64 0,.int .i64 0,.slice none 0 0] 58)).cell? ⟨w2.heap.size,5,none⟩=some (.int .i64 0):=by simp [go_sem]
      have g6:(w2.alloc (.cells #[.int .i64 0,.int .i64 0,.int .i64 0,.int .i64 0,.int .i64 0,.int .i64 0,.slice none 0 0] 58)).cell? ⟨w2.heap.size,6,none⟩=some (.slice none 0 0):=by simp [go_sem]
      have r_1_0:=((Up.refl w2).alloc #[.int .i64 0,.int .i64 0,.int .i64 0,.int .i64 0,.int .i64 0,.int .i64 0,.slice none 0 0] 58).keep _ _ _ r_1_0
      have r_1_1:=((Up.refl w2).alloc #[.int .i64 0,.int .i64 0,.int .i64 0,.int .i64 0,.int .i64 0,.int .i64 0,.slice none 0 0] 58).keep _ _ _ r_1_1
      have r_1_2:=((Up.refl w2).alloc #[.int .i64 0,.int .i64 0,.int .i64 0,.int .i64 0,.int .i64 0,.int .i64 0,.slice none 0 0] 58).keep _ _ _ r_1_2
      have r_1_3:=((Up.refl w2).alloc #[.int .i64 0,.int .i64 0,.int .i64 0,.int .i64 0,.int .i64 0,.int .i64 0,.slice none 0 0] 58).keep _ _ _ r_1_3
      have r_1_4:=((Up.refl w2).alloc #[.int .i64 0,.int .i64 0,.int .i64 0,.int .i64 0,.int .i64 0,.int .i64 0,.slice none 0 0] 58).keep _ _ _ r_1_4
      have r_1_5:=((Up.refl w2).alloc #[.int .i64 0,.int .i64 0,.int .i64 0,.int .i64 0,.int .i64 0,.int .i64 0,.slice none 0 0] 58).keep _ _ _ r_1_5
      have HW:=Lib.hid (HW.out.alloc #[.int .i64 0,.int .i64 0,.int .i64 0,.int .i64 0,.int .i64 0,.int .i64 0,.slice none 0 0] 58)
      go_simp
      refine hK.out _ _ ?hB22 (fun hHeld=>?_)
      case hB22=>(with_reducible exact keepL6 (Lib.hid ((Up.refl _).alloc _ _)) hHeld)
      clear hK K
      (try simp only [Act.put,stpA,stpB,stpC])
      refine wpAnyH_ready (rs:=[5]) (by kernel_rfl) (by simp) ?_
      refine AllReadyH.cons (o:=⟨_,_,_,_,_,_⟩) rfl (fun K hK=>?_) (AllReadyH.nil)
      go_simp
      (go_at_call 32;(with_reducible refine (KN.out _).mono ?_);rintro e w3 ⟨xb,rfl,hu,cb⟩;have HW:=Lib.hid (HW.out.trans hu);have HX:=Lib.hid (keepL6 (Lib.hid hu) hHeld);have r_1_0:=hu.keep _ _ _ r_1_0;have r_1_1:=hu.keep _ _ _ r_1_1;have r_1_2:=hu.keep _ _ _ r_1_2;have r_1_3:=hu.keep _ _ _ r_1_3;have r_1_4:=hu.keep _ _ _ r_1_4;have r_1_5:=hu.keep _ _ _ r_1_5;have g0:=hu.keep _ _ _ g0;have g1:=hu.keep _ _ _ g1;have g2:=hu.keep _ _ _ g2;have g3:=hu.keep _ _ _ g3;have g4:=hu.keep _ _ _ g4;have g5:=hu.keep _ _ _ g5;have g6:=hu.keep _ _ _ g6;have fz0:=HW.out.ownGe (g:=w2.heap.size) (by omega) 0;have fz1:=HW.out.ownGe (g:=w2.heap.size) (by omega) 1;have fz2:=HW.out.ownGe (g:=w2.heap.size) (by omega) 2;have fz3:=HW.out.ownGe (g:=w2.heap.size) (by omega) 3;have fz4:=HW.out.ownGe (g:=w2.heap.size) (by omega) 4;have fz5:=HW.out.ownGe (g:=w2.heap.size) (by omega) 5;have fz6:=HW.out.ownGe (g:=w2.heap.size) (by omega) 6;have CB:=Lib.hid cb;clear cb;clear hu)
      (try go_wp2_with fail)
      refine hK.out _ _ ?hB23 (fun hHeld=>?_)
      case hB23=>(with_reducible exact HX.out)
      clear hK K
      (try simp only [Act.put,stpA,stpB,stpC])
      refine wpAnyH_ready (rs:=[6]) (by kernel_rfl) (by simp) ?_
      refine AllReadyH.cons (o:=⟨_,_,_,_,_,_⟩) rfl (fun K hK=>?_) (AllReadyH.nil)
      go_simp
      (go_at_call 31;(with_reducible refine (KA.out xb _ hHeld.1 CB.out).mono ?_);have hlr_:=World.block_lt_of_cell? _ _ r_1_0;have hsz_:=hHeld.1.size;have htb_:=World.block_lt_of_cell? _ _ g0;rintro e w4 ⟨rfl,hu⟩;have HW:=Lib.hid (HW.out.trans hu);have HX:=Lib.hid (keepL6 (Lib.hid hu) hHeld);have r_1_0:=hu.keep _ _ _ r_1_0;have r_1_1:=hu.keep _ _ _ r_1_1;have r_1_2:=hu.keep _ _ _ r_1_2;have r_1_3:=hu.keep _ _ _ r_1_3;have r_1_4:=hu.keep _ _ _ r_1_4;have r_1_5:=hu.keep _ _ _ r_1_5;have g0:=hu.keep _ _ _ g0;have g1:=hu.keep _ _ _ g1;have g2:=hu.keep _ _ _ g2;have g3:=hu.keep _ _ _ g3;have g4:=hu.keep _ _ _ g4;have g5:=hu.keep _ _ _ g5;have g6:=hu.keep _ _ _ g6;have fz0:=HW.out.ownGe (g:=w2.heap.size) (by omega) 0;have fz1:=HW.out.ownGe (g:=w2.heap.size) (by omega) 1;have fz2:=HW.out.ownGe (g:=w2.heap.size) (by omega) 2;have fz3:=HW.out.ownGe (g:=w2.heap.size) (by omega) 3;have fz4:=HW.out.ownGe (g:=w2.heap.size) (by omega) 4;have fz5:=HW.out.ownGe (g:=w2.heap.size) (by omega) 5;have fz6:=HW.out.ownGe (g:=w2.heap.size) (by omega) 6;clear hu)
      (try go_wp2_with fail)
      refine hK.out _ _ ?hB24 (fun hHeld=>?_)
      case hB24=>(with_reducible exact HX.out)
      clear hK K
      (try simp only [Act.put,stpA,stpB,stpC])
      refine takeT 7 rfl (by assumption) ?_
      (try simp only [Act.put,stpA,stpB,stpC])
      refine takeT 8 rfl (by assumption) ?_
      (try simp only [Act.put,stpA,stpB,stpC])
      refine takeT 9 rfl (by assumption) ?_
      (try simp only [Act.put,stpA,stpB,stpC])
      refine wpAnyH_ready (rs:=[11]) (by kernel_rfl) (by simp) ?_
      refine AllReadyH.cons (o:=⟨_,_,_,_,_,_⟩) rfl (fun K hK=>?_) (AllReadyH.nil)
      go_simp
      refine hK.out _ _ ?hB28 (fun hHeld=>?_)
      case hB28=>(with_reducible exact set7L6 hHeld (by omega) (by omega))
      clear hK K
      (try simp only [Act.put,stpA,stpB,stpC])
      refine takeT 12 rfl (by assumption) ?_
      (try simp only [Act.put,stpA,stpB,stpC])
      refine wpAnyH_done (by kernel_rfl) ?_ _
      obtain ⟨wa,hwa⟩:∃ z,z=((((((w4.setCell ⟨w2.heap.size,0,none⟩ (.int .i64 0)).setCell ⟨w2.heap.size,1,none⟩ (.int .i64 0)).setCell ⟨w2.heap.size,2,none⟩ (.int .i64 0)).setCell ⟨w2.heap.size,3,none⟩ (.int .i64 0)).setCell ⟨w2.heap.size,4,none⟩ (.int .i64 0)).setCell ⟨w2.heap.size,5,none⟩ (.int .i64 0)).setCell ⟨w2.heap.size,6,none⟩ (.slice none 0 0):=⟨_,rfl⟩
      rw [← hwa]
      obtain ⟨g0_,g1_,g2_,g3_,g4_,g5_,g6_⟩:=cells7 (w:=w4) (p:=w2.heap.size) (v0:=.int .i64 0) (v1:=.int .i64 0) (v2:=.int .i64 0) (v3:=.int .i64 0) (v4:=.int .i64 0) (v5:=.int .i64 0) (v6:=.slice none 0 0) g0 g1 g2 g3 g4 g5 g6
      rw [← hwa] at g0_ g1_ g2_ g3_ g4_ g5_ g6_
      have r_1_0_:wa.cell? ⟨w.heap.size+1,0,none⟩=some (.int .i64 0):=by rw [hwa];exact far7 (w:=w4) r_1_0 (by omega)
      have r_1_1_:wa.cell? ⟨w.heap.size+1,1,none⟩=some (.int .i64 0):=by rw [hwa];exact far7 (w:=w4) r_1_1 (by omega)
      have r_1_2_:wa.cell? ⟨w.heap.size+1,2,none⟩=some (.int .i64 0):=by rw [hwa];exact far7 (w:=w4) r_1_2 (by omega)
      have r_1_3_:wa.cell? ⟨w.heap.size+1,3,none⟩=some (.int .i64 0):=by rw [hwa];exact far7 (w:=w4) r_1_3 (by omega)
      have r_1_4_:wa.cell? ⟨w.heap.size+1,4,none⟩=some (.int .i64 0):=by rw [hwa];exact far7 (w:=w4) r_1_4 (by omega)
      have r_1_5_:wa.cell? ⟨w.heap.size+1,5,none⟩=some (.slice none 0 0):=by rw [hwa];exact far7 (w:=w4) r_1_5 (by omega)
      have HW:=Lib.hid (show Up w wa by rw [hwa];exact HW.out.set7 (by omega))
      clear hwa HX HSS hHeld fz0 fz1 fz2 fz3 fz4 fz5 fz6 g0 g1 g2 g3 g4 g5 g6 r_1_0 r_1_1 r_1_2 r_1_3 r_1_4 r_1_5
      have g0:=g0_
      have g1:=g1_
      have g2:=g2_
      have g3:=g3_
      have g4:=g4_
      have g5:=g5_
      have g6:=g6_
      have r_1_0:=r_1_0_
      have r_1_1:=r_1_1_
      have r_1_2:=r_1_2_
      have r_1_3:=r_1_3_
      have r_1_4:=r_1_4_
      have r_1_5:=r_1_5_
      have hlra:=World.block_lt_of_cell? _ _ r_1_0
      go_wp2_with (go_at_call 28;(with_reducible refine (KF.out _).mono ?_);rintro e w5 ⟨rfl,hu⟩;have HW:=Lib.hid (HW.out.trans hu);have r_1_0:=hu.keep _ _ _ r_1_0;have r_1_1:=hu.keep _ _ _ r_1_1;have r_1_2:=hu.keep _ _ _ r_1_2;have r_1_3:=hu.keep _ _ _ r_1_3;have r_1_4:=hu.keep _ _ _ r_1_4;have r_1_5:=hu.keep _ _ _ r_1_5;have z0:=HW.out.ownGe (g:=w.heap.size+1) (by omega) 0;have z1:=HW.out.ownGe (g:=w.heap.size+1) (by omega) 1;have z2:=HW.out.ownGe (g:=w.heap.size+1) (by omega) 2;have z3:=HW.out.ownGe (g:=w.heap.size+1) (by omega) 3;have z4:=HW.out.ownGe (g:=w.heap.size+1) (by omega) 4;have z5:=HW.out.ownGe (g:=w.heap.size+1) (by omega) 5;clear hu)
      refine bodyPost_ret (v:=.tuple #[.agg #[.int .i64 0,.int .i64 0,.int .i64 0,.int .i64 0,.int .i64 0,.slice none 0 0],.int .i64 4]) (by simp [results,Tryz.results9,go_sem,r_1_0,r_1_1,r_1_2,r_1_3,r_1_4,r_1_5]) rfl ⟨rfl,?_⟩
      exact HW.out.setP6 (by omega)
  · have hlt_:w.heap.size+1<w1.heap.size:=World.block_lt_of_cell? _ _ r_1_0
    have g0:(w1.alloc (.cells #[.int .i64 0,.int .i64 0,.int .i64 0,.int .i64 0,.int .i64 0,.int .i64 0,.slice none 0 0] 58)).cell? ⟨w1.heap.size,0,none⟩=some (.int .i64 0):=by simp [go_sem]
    have g1:(w1.alloc (.cells #[.int .i64 0,.int .i64 0,.int .i64 0,.int .i64 0,.int .i64 0,.int .i64 0,.slice none 0 0] 58)).cell? ⟨w1.heap.size,1,none⟩=some (.int .i64 0):=by simp [go_sem]
    have g2:(w1.alloc (.cells #[.int .i64 0,.int .i64 0,.int .i64 0,.int .i64 0,.int .i64 0,.int .i64 0,.slice none 0 0] 58)).cell? ⟨w1.heap.size,2,none⟩=some (.int .i64 0):=by simp [go_sem]
    have g3:(w1.alloc (.cells #[.int .i64 0,.int .i64 0,.int .i64 0,.int .i64 0,.int .i64 0,.int .i64 0,.slice none 0 0] 58)).cell? ⟨w1.heap.size,3,none⟩=some (.int .i64 0):=by simp [go_sem]
    have g4:(w1.alloc (.cells #[.int .i64 0,.int .i64 0,.int .i64 0,.int .i64 0,.int .i64 0,.int .i64 0,.slice none 0 0] 58)).cell? ⟨w1.heap.size,4,none⟩=some (.int .i64 0):=by simp [go_sem]
    have g5:(w1.alloc (.cells #[.int .i64 0,.int .i64 0,.int .i64 0,.int .i64 0,.int .i64 0,.int .i64 0,.slice none 0 0] 58)).cell? ⟨w1.heap.size,5,none⟩=some (.int .i64 0):=by simp [go_sem]
    have g6:(w1.alloc (.cells #[.int .i64 0,.int .i64 0,.int .i64 0,.int .i64 0,.int .i64 0,.int .i64 0,.slice none 0 0] 58)).cell? ⟨w1.heap.size,6,none⟩=some (.slice none 0 0):=by simp [go_sem]
    have r_1_0:=((Up.refl w1).alloc #[.int .i64 0,.int .i64 0,.int .i64 0,.int .i64 0,.int .i64 0,.int .i64 0,.slice none 0 0] 58).keep _ _ _ r_1_0
    have r_1_1:=((Up.refl w1).alloc #[.int .i64 0,.int .i64 0,.int .i64 0,.int .i64 0,.int .i64 0,.int .i64 0,.slice none 0 0] 58).keep _ _ _ r_1_1
    have r_1_2:=((Up.refl w1).alloc #[.int .i64 0,.int .i64 0,.int .i64 0,.int .i64 0,.int .i64 0,.int .i64 0,.slice none 0 0] 58).keep _ _ _ r_1_2
    have r_1_3:=((Up.refl w1).alloc #[.int .i64 0,.int .i64 0,.int .i64 0,.int .i64 0,.int .i64 0,.int .i64 0,.slice none 0 0] 58).keep _ _ _ r_1_3
    have r_1_4:=((Up.refl w1).alloc #[.int .i64 0,.int .i64 0,.int .i64 0,.int .i64 0,.int .i64 0,.int .i64 0,.slice none 0 0] 58).keep _ _ _ r_1_4
    have r_1_5:=((Up.refl w1).alloc #[.int .i64 0,.int .i64 0,.int .i64 0,.int .i64 0,.int .i64 0,.int .i64 0,.slice none 0 0] 58).keep _ _ _ r_1_5
    have HW:=Lib.hid (HW.out.alloc #[.int .i64 0,.int .i64 0,.int .i64 0,.int .i64 0,.int .i64 0,.int .i64 0,.slice none 0 0] 58)
    go_simp
    refine hK.out _ _ ?hB30 (fun hHeld=>?_)
    case hB30=>(with_reducible exact keepL6 (Lib.hid ((Up.refl _).alloc _ _)) hHeld)
    clear hK K
    (try simp only [Act.put,stpA,stpB,stpC])
    refine wpAnyH_ready (rs:=[1]) (by kernel_rfl) (by simp) ?_
    refine AllReadyH.cons (o:=⟨_,_,_,_,_,_⟩) rfl (fun K hK=>?_) (AllReadyH.nil)
    go_simp
    (go_at_call 27;(with_reducible refine (KT.out _).mono ?_);rintro e w2 ⟨rfl,hu⟩;have HW:=Lib.hid (HW.out.trans hu);have HX:=Lib.hid (keepL6 (Lib.hid hu) hHeld);have r_1_0:=hu.keep _ _ _ r_1_0;have r_1_1:=hu.keep _ _ _ r_1_1;have r_1_2:=hu.keep _ _ _ r_1_2;have r_1_3:=hu.keep _ _ _ r_1_3;have r_1_4:=hu.keep _ _ _ r_1_4;have r_1_5:=hu.keep _ _ _ r_1_5;have g0:=hu.keep _ _ _ g0;have g1:=hu.keep _ _ _ g1;have g2:=hu.keep _ _ _ g2;have g3:=hu.keep _ _ _ g3;have g4:=hu.keep _ _ _ g4;have g5:=hu.keep _ _ _ g5;have g6:=hu.keep _ _ _ g6;have fz0:=HW.out.ownGe (g:=w1.heap.size) (by omega) 0;have fz1:=HW.out.ownGe (g:=w1.heap.size) (by omega) 1;have fz2:=HW.out.ownGe (g:=w1.heap.size) (by omega) 2;have fz3:=HW.out.ownGe (g:=w1.heap.size) (by omega) 3;have fz4:=HW.out.ownGe (g:=w1.heap.size) (by omega) 4;have fz5:=HW.out.ownGe (g:=w1.heap.size) (by omega) 5;have fz6:=HW.out.ownGe (g:=w1.heap.size) (by omega) 6;clear hu)
    (try go_wp2_with fail)
    refine hK.out _ _ ?hB31 (fun hHeld=>?_)
    case hB31=>(with_reducible exact HX.out)
    clear hK K
    (try simp only [Act.put,stpA,stpB,stpC])
    refine wpAnyH_ready (rs:=[5]) (by kernel_rfl) (by simp) ?_
    refine AllReadyH.cons (o:=⟨_,_,_,_,_,_⟩) rfl (fun K hK=>?_) (AllReadyH.nil)
    go_simp
    (go_at_call 32;(with_reducible refine (KN.out _).mono ?_);rintro e w3 ⟨xb,rfl,hu,cb⟩;have HW:=Lib.hid (HW.out.trans hu);have HX:=Lib.hid (keepL6 (Lib.hid hu) hHeld);have r_1_0:=hu.keep _ _ _ r_1_0;have r_1_1:=hu.keep _ _ _ r_1_1;have r_1_2:=hu.keep _ _ _ r_1_2;have r_1_3:=hu.keep _ _ _ r_1_3;have r_1_4:=hu.keep _ _ _ r_1_4;have r_1_5:=hu.keep _ _ _ r_1_5;have g0:=hu.keep _ _ _ g0;have g1:=hu.keep _ _ _ g1;have g2:=hu.keep _ _ _ g2;have g3:=hu.keep _ _ _ g3;have g4:=hu.keep _ _ _ g4;have g5:=hu.keep _ _ _ g5;have g6:=hu.keep _ _ _ g6;have fz0:=HW.out.ownGe (g:=w1.heap.size) (by omega) 0;have fz1:=HW.out.ownGe (g:=w1.heap.size) (by omega) 1;have fz2:=HW.out.ownGe (g:=w1.heap.size) (by omega) 2;have fz3:=HW.out.ownGe (g:=w1.heap.size) (by omega) 3;have fz4:=HW.out.ownGe (g:=w1.heap.size) (by omega) 4;have fz5:=HW.out.ownGe (g:=w1.heap.size) (by omega) 5;have fz6:=HW.out.ownGe (g:=w1.heap.size) (by omega) 6;have CB:=Lib.hid cb;clear cb;clear hu)
    (try go_wp2_with fail)
    refine hK.out _ _ ?hB32 (fun hHeld=>?_)
    case hB32=>(with_reducible exact HX.out)
    clear hK K
    (try simp only [Act.put,stpA,stpB,stpC])
    refine wpAnyH_ready (rs:=[6]) (by kernel_rfl) (by simp) ?_
    refine AllReadyH.cons (o:=⟨_,_,_,_,_,_⟩) rfl (fun K hK=>?_) (AllReadyH.nil)
    go_simp
    (go_at_call 31;(with_reducible refine (KA.out xb _ hHeld.1 CB.out).mono ?_);have hlr_:=World.block_lt_of_cell? _ _ r_1_0;have hsz_:=hHeld.1.size;have htb_:=World.block_lt_of_cell? _ _ g0;rintro e w4 ⟨rfl,hu⟩;have HW:=Lib.hid (HW.out.trans hu);have HX:=Lib.hid (keepL6 (Lib.hid hu) hHeld);have r_1_0:=hu.keep _ _ _ r_1_0;have r_1_1:=hu.keep _ _ _ r_1_1;have r_1_2:=hu.keep _ _ _ r_1_2;have r_1_3:=hu.keep _ _ _ r_1_3;have r_1_4:=hu.keep _ _ _ r_1_4;have r_1_5:=hu.keep _ _ _ r_1_5;have g0:=hu.keep _ _ _ g0;have g1:=hu.keep _ _ _ g1;have g2:=hu.keep _ _ _ g2;have g3:=hu.keep _ _ _ g3;have g4:=hu.keep _ _ _ g4;have g5:=hu.keep _ _ _ g5;have g6:=hu.keep _ _ _ g6;have fz0:=HW.out.ownGe (g:=w1.heap.size) (by omega) 0;have fz1:=HW.out.ownGe (g:=w1.heap.size) (by omega) 1;have fz2:=HW.out.ownGe (g:=w1.heap.size) (by omega) 2;have fz3:=HW.out.ownGe (g:=w1.heap.size) (by omega) 3;have fz4:=HW.out.ownGe (g:=w1.heap.size) (by omega) 4;have fz5:=HW.out.ownGe (g:=w1.heap.size) (by omega) 5;have fz6:=HW.out.ownGe (g:=w1.heap.size) (by omega) 6;clear hu)
    (try go_wp2_with fail)
    refine hK.out _ _ ?hB33 (fun hHeld=>?_)
    case hB33=>(with_reducible exact HX.out)
    clear hK K
    (try simp only [Act.put,stpA,stpB,stpC])
    refine takeT 7 rfl (by assumption) ?_
    (try simp only [Act.put,stpA,stpB,stpC])
    refine takeT 8 rfl (by assumption) ?_
    (try simp only [Act.put,stpA,stpB,stpC])
    refine takeT 9 rfl (by assumption) ?_
    (try simp only [Act.put,stpA,stpB,stpC])
    refine wpAnyH_ready (rs:=[11]) (by kernel_rfl) (by simp) ?_
    refine AllReadyH.cons (o:=⟨_,_,_,_,_,_⟩) rfl (fun K hK=>?_) (AllReadyH.nil)
    go_simp
    refine hK.out _ _ ?hB37 (fun hHeld=>?_)
    case hB37=>(with_reducible exact set7L6 hHeld (by omega) (by omega))
    clear hK K
    (try simp only [Act.put,stpA,stpB,stpC])
    refine takeT 12 rfl (by assumption) ?_
    (try simp only [Act.put,stpA,stpB,stpC])
    refine wpAnyH_done (by kernel_rfl) ?_ _
    obtain ⟨wa,hwa⟩:∃ z,z=((((((w4.setCell ⟨w1.heap.size,0,none⟩ (.int .i64 0)).setCell ⟨w1.heap.size,1,none⟩ (.int .i64 0)).setCell ⟨w1.heap.size,2,none⟩ (.int .i64 0)).setCell ⟨w1.heap.size,3,none⟩ (.int .i64 0)).setCell ⟨w1.heap.size,4,none⟩ (.int .i64 0)).setCell ⟨w1.heap.size,5,none⟩ (.int .i64 0)).setCell ⟨w1.heap.size,6,none⟩ (.slice none 0 0):=⟨_,rfl⟩
    rw [← hwa]
    obtain ⟨g0_,g1_,g2_,g3_,g4_,g5_,g6_⟩:=cells7 (w:=w4) (p:=w1.heap.size) (v0:=.int .i64 0) (v1:=.int .i64 0) (v2:=.int .i64 0) (v3:=.int .i64 0) (v4:=.int .i64 0) (v5:=.int .i64 0) (v6:=.slice none 0 0) g0 g1 g2 g3 g4 g5 g6
    rw [← hwa] at g0_ g1_ g2_ g3_ g4_ g5_ g6_
    have r_1_0_:wa.cell? ⟨w.heap.size+1,0,none⟩=some (.int .i64 0):=by rw [hwa];exact far7 (w:=w4) r_1_0 (by omega)
    have r_1_1_:wa.cell? ⟨w.heap.size+1,1,none⟩=some (.int .i64 0):=by rw [hwa];exact far7 (w:=w4) r_1_1 (by omega)
    have r_1_2_:wa.cell? ⟨w.heap.size+1,2,none⟩=some (.int .i64 0):=by rw [hwa];exact far7 (w:=w4) r_1_2 (by omega)
    have r_1_3_:wa.cell? ⟨w.heap.size+1,3,none⟩=some (.int .i64 0):=by rw [hwa];exact far7 (w:=w4) r_1_3 (by omega)
    have r_1_4_:wa.cell? ⟨w.heap.size+1,4,none⟩=some (.int .i64 0):=by rw [hwa];exact far7 (w:=w4) r_1_4 (by omega)
    have r_1_5_:wa.cell? ⟨w.heap.size+1,5,none⟩=some (.slice none 0 0):=by rw [hwa];exact far7 (w:=w4) r_1_5 (by omega)
    have HW:=Lib.hid (show Up w wa by rw [hwa];exact HW.out.set7 (by omega))
    clear hwa HX HSS hHeld fz0 fz1 fz2 fz3 fz4 fz5 fz6 g0 g1 g2 g3 g4 g5 g6 r_1_0 r_1_1 r_1_2 r_1_3 r_1_4 r_1_5
    have g0:=g0_
    have g1:=g1_
    have g2:=g2_
    have g3:=g3_
    have g4:=g4_
    have g5:=g5_
    have g6:=g6_
    have r_1_0:=r_1_0_
    have r_1_1:=r_1_1_
    have r_1_2:=r_1_2_
    have r_1_3:=r_1_3_
    have r_1_4:=r_1_4_
    have r_1_5:=r_1_5_
    have hlra:=World.block_lt_of_cell? _ _ r_1_0
    go_wp2_with (go_at_call 28;(with_reducible refine (KF.out _).mono ?_);rintro e w5 ⟨rfl,hu⟩;have HW:=Lib.hid (HW.out.trans hu);have r_1_0:=hu.keep _ _ _ r_1_0;have r_1_1:=hu.keep _ _ _ r_1_1;have r_1_2:=hu.keep _ _ _ r_1_2;have r_1_3:=hu.keep _ _ _ r_1_3;have r_1_4:=hu.keep _ _ _ r_1_4;have r_1_5:=hu.keep _ _ _ r_1_5;have z0:=HW.out.ownGe (g:=w.heap.size+1) (by omega) 0;have z1:=HW.out.ownGe (g:=w.heap.size+1) (by omega) 1;have z2:=HW.out.ownGe (g:=w.heap.size+1) (by omega) 2;have z3:=HW.out.ownGe (g:=w.heap.size+1) (by omega) 3;have z4:=HW.out.ownGe (g:=w.heap.size+1) (by omega) 4;have z5:=HW.out.ownGe (g:=w.heap.size+1) (by omega) 5;clear hu)
    refine bodyPost_ret (v:=.tuple #[.agg #[.int .i64 0,.int .i64 0,.int .i64 0,.int .i64 0,.int .i64 0,.slice none 0 0],.int .i64 4]) (by simp [results,Tryz.results9,go_sem,r_1_0,r_1_1,r_1_2,r_1_3,r_1_4,r_1_5]) rfl ⟨rfl,?_⟩
    exact HW.out.setP6 (by omega)

end Go.Proofs.YtafkoddgefcpnaaGreat
