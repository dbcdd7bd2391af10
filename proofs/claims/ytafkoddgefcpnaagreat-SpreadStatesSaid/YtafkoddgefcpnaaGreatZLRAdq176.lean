/- Texts of these claims, one after the other. -/
import Derived.Test.YtafkoddgefcpnaaGreatRows
import Derived.Test.YtafkoddgefcpnaaGreatZKRAmq175
import Derived.Test.YtafkoddgefcpnaaGreatZLAdvq171
namespace Go.Proofs.YtafkoddgefcpnaaGreat
open Go.RowKit
set_option linter.unusedVariables false

theorem keepL12 {w w1 w2:World} {b0 o0 b1 o1 b2 o2 b3 o3 b4 o4 b5 o5 b6 o6 b7 o7 b8 o8 b9 o9 b10 o10 b11 o11:Nat} {x0 x1 x2 x3 x4 x5 x6 x7 x8 x9 x10 x11:Value} (hu:Hid (Up w1 w2)) (h:Up w w1∧w1.cell? ⟨b0,o0,none⟩=some x0∧w1.cell? ⟨b1,o1,none⟩=some x1∧w1.cell? ⟨b2,o2,none⟩=some x2∧w1.cell? ⟨b3,o3,none⟩=some x3∧w1.cell? ⟨b4,o4,none⟩=some x4∧w1.cell? ⟨b5,o5,none⟩=some x5∧w1.cell? ⟨b6,o6,none⟩=some x6∧w1.cell? ⟨b7,o7,none⟩=some x7∧w1.cell? ⟨b8,o8,none⟩=some x8∧w1.cell? ⟨b9,o9,none⟩=some x9∧w1.cell? ⟨b10,o10,none⟩=some x10∧w1.cell? ⟨b11,o11,none⟩=some x11):Up w w2∧w2.cell? ⟨b0,o0,none⟩=some x0∧w2.cell? ⟨b1,o1,none⟩=some x1∧w2.cell? ⟨b2,o2,none⟩=some x2∧w2.cell? ⟨b3,o3,none⟩=some x3∧w2.cell? ⟨b4,o4,none⟩=some x4∧w2.cell? ⟨b5,o5,none⟩=some x5∧w2.cell? ⟨b6,o6,none⟩=some x6∧w2.cell? ⟨b7,o7,none⟩=some x7∧w2.cell? ⟨b8,o8,none⟩=some x8∧w2.cell? ⟨b9,o9,none⟩=some x9∧w2.cell? ⟨b10,o10,none⟩=some x10∧w2.cell? ⟨b11,o11,none⟩=some x11 :=
  ⟨h.1.trans hu.out,hu.out.keep _ _ _ h.2.1,hu.out.keep _ _ _ h.2.2.1,hu.out.keep _ _ _ h.2.2.2.1,hu.out.keep _ _ _ h.2.2.2.2.1,hu.out.keep _ _ _ h.2.2.2.2.2.1,hu.out.keep _ _ _ h.2.2.2.2.2.2.1,hu.out.keep _ _ _ h.2.2.2.2.2.2.2.1,hu.out.keep _ _ _ h.2.2.2.2.2.2.2.2.1,hu.out.keep _ _ _ h.2.2.2.2.2.2.2.2.2.1,hu.out.keep _ _ _ h.2.2.2.2.2.2.2.2.2.2.1,hu.out.keep _ _ _ h.2.2.2.2.2.2.2.2.2.2.2.1,hu.out.keep _ _ _ h.2.2.2.2.2.2.2.2.2.2.2.2⟩
theorem keepL13 {w w1 w2:World} {b0 o0 b1 o1 b2 o2 b3 o3 b4 o4 b5 o5 b6 o6 b7 o7 b8 o8 b9 o9 b10 o10 b11 o11 b12 o12:Nat} {x0 x1 x2 x3 x4 x5 x6 x7 x8 x9 x10 x11 x12:Value} (hu:Hid (Up w1 w2)) (h:Up w w1∧w1.cell? ⟨b0,o0,none⟩=some x0∧w1.cell? ⟨b1,o1,none⟩=some x1∧w1.cell? ⟨b2,o2,none⟩=some x2∧w1.cell? ⟨b3,o3,none⟩=some x3∧w1.cell? ⟨b4,o4,none⟩=some x4∧w1.cell? ⟨b5,o5,none⟩=some x5∧w1.cell? ⟨b6,o6,none⟩=some x6∧w1.cell? ⟨b7,o7,none⟩=some x7∧w1.cell? ⟨b8,o8,none⟩=some x8∧w1.cell? ⟨b9,o9,none⟩=some x9∧w1.cell? ⟨b10,o10,none⟩=some x10∧w1.cell? ⟨b11,o11,none⟩=some x11∧w1.cell? ⟨b12,o12,none⟩=some x12):Up w w2∧w2.cell? ⟨b0,o0,none⟩=some x0∧w2.cell? ⟨b1,o1,none⟩=some x1∧w2.cell? ⟨b2,o2,none⟩=some x2∧w2.cell? ⟨b3,o3,none⟩=some x3∧w2.cell? ⟨b4,o4,none⟩=some x4∧w2.cell? ⟨b5,o5,none⟩=some x5∧w2.cell? ⟨b6,o6,none⟩=some x6∧w2.cell? ⟨b7,o7,none⟩=some x7∧w2.cell? ⟨b8,o8,none⟩=some x8∧w2.cell? ⟨b9,o9,none⟩=some x9∧w2.cell? ⟨b10,o10,none⟩=some x10∧w2.cell? ⟨b11,o11,none⟩=some x11∧w2.cell? ⟨b12,o12,none⟩=some x12 :=
  ⟨h.1.trans hu.out,hu.out.keep _ _ _ h.2.1,hu.out.keep _ _ _ h.2.2.1,hu.out.keep _ _ _ h.2.2.2.1,hu.out.keep _ _ _ h.2.2.2.2.1,hu.out.keep _ _ _ h.2.2.2.2.2.1,hu.out.keep _ _ _ h.2.2.2.2.2.2.1,hu.out.keep _ _ _ h.2.2.2.2.2.2.2.1,hu.out.keep _ _ _ h.2.2.2.2.2.2.2.2.1,hu.out.keep _ _ _ h.2.2.2.2.2.2.2.2.2.1,hu.out.keep _ _ _ h.2.2.2.2.2.2.2.2.2.2.1,hu.out.keep _ _ _ h.2.2.2.2.2.2.2.2.2.2.2.1,hu.out.keep _ _ _ h.2.2.2.2.2.2.2.2.2.2.2.2.1,hu.out.keep _ _ _ h.2.2.2.2.2.2.2.2.2.2.2.2.2⟩
theorem keepL15 {w w1 w2:World} {b0 o0 b1 o1 b2 o2 b3 o3 b4 o4 b5 o5 b6 o6 b7 o7 b8 o8 b9 o9 b10 o10 b11 o11 b12 o12 b13 o13 b14 o14:Nat} {x0 x1 x2 x3 x4 x5 x6 x7 x8 x9 x10 x11 x12 x13 x14:Value} (hu:Hid (Up w1 w2)) (h:Up w w1∧w1.cell? ⟨b0,o0,none⟩=some x0∧w1.cell? ⟨b1,o1,none⟩=some x1∧w1.cell? ⟨b2,o2,none⟩=some x2∧w1.cell? ⟨b3,o3,none⟩=some x3∧w1.cell? ⟨b4,o4,none⟩=some x4∧w1.cell? ⟨b5,o5,none⟩=some x5∧w1.cell? ⟨b6,o6,none⟩=some x6∧w1.cell? ⟨b7,o7,none⟩=some x7∧w1.cell? ⟨b8,o8,none⟩=some x8∧w1.cell? ⟨b9,o9,none⟩=some x9∧w1.cell? ⟨b10,o10,none⟩=some x10∧w1.cell? ⟨b11,o11,none⟩=some x11∧w1.cell? ⟨b12,o12,none⟩=some x12∧w1.cell? ⟨b13,o13,none⟩=some x13∧w1.cell? ⟨b14,o14,none⟩=some x14):Up w w2∧w2.cell? ⟨b0,o0,none⟩=some x0∧w2.cell? ⟨b1,o1,none⟩=some x1∧w2.cell? ⟨b2,o2,none⟩=some x2∧w2.cell? ⟨b3,o3,none⟩=some x3∧w2.cell? ⟨b4,o4,none⟩=some x4∧w2.cell? ⟨b5,o5,none⟩=some x5∧w2.cell? ⟨b6,o6,none⟩=some x6∧w2.cell? ⟨b7,o7,none⟩=some x7∧w2.cell? ⟨b8,o8,none⟩=some x8∧w2.cell? ⟨b9,o9,none⟩=some x9∧w2.cell? ⟨b10,o10,none⟩=some x10∧w2.cell? ⟨b11,o11,none⟩=some x11∧w2.cell? ⟨b12,o12,none⟩=some x12∧w2.cell? ⟨b13,o13,none⟩=some x13∧w2.cell? ⟨b14,o14,none⟩=some x14 :=
  ⟨h.1.trans hu.out,hu.out.keep _ _ _ h.2.1,hu.out.keep _ _ _ h.2.2.1,hu.out.keep _ _ _ h.2.2.2.1,hu.out.keep _ _ _ h.2.2.2.2.1,hu.out.keep _ _ _ h.2.2.2.2.2.1,hu.out.keep _ _ _ h.2.2.2.2.2.2.1,hu.out.keep _ _ _ h.2.2.2.2.2.2.2.1,hu.out.keep _ _ _ h.2.2.2.2.2.2.2.2.1,hu.out.keep _ _ _ h.2.2.2.2.2.2.2.2.2.1,hu.out.keep _ _ _ h.2.2.2.2.2.2.2.2.2.2.1,hu.out.keep _ _ _ h.2.2.2.2.2.2.2.2.2.2.2.1,hu.out.keep _ _ _ h.2.2.2.2.2.2.2.2.2.2.2.2.1,hu.out.keep _ _ _ h.2.2.2.2.2.2.2.2.2.2.2.2.2.1,hu.out.keep _ _ _ h.2.2.2.2.2.2.2.2.2.2.2.2.2.2.1,hu.out.keep _ _ _ h.2.2.2.2.2.2.2.2.2.2.2.2.2.2.2⟩
theorem val4_iff {d:Int}:valG 4 d ↔ valueB d=true:=by
  unfold valG valueB
  rw [decide_eq_true_eq]
  omega
set_option maxHeartbeats 4000000 in
set_option maxRecDepth 100000 in
theorem radd14_bad (v q c now seq d:Int) (n k:Nat) (A:Option Addr) (X:List Mrk) (hn:n≤50000) (hk:n≤k) (hv:stP v q c now seq X=false) (w:World) (hS:SG cM w A n X) :
    Calls Tryz.prog 10 #[.agg #[.int .i64 v,.int .i64 q,.int .i64 c,.int .i64 now,.int .i64 seq,.slice A n k],.int .i64 d] w fun e w'=>e=.returned (.tuple #[.agg #[.int .i64 0,.int .i64 0,.int .i64 0,.int .i64 0,.int .i64 0,.slice none 0 0],.int .i64 2])∧Up w w':=by
  have KV:=Lib.hid (fun W (h:SG cM W A n X)=>rvalidate14_up v q c now seq n k A X hn W h)
  rw [stPE_no hv] at KV
  have HS:=Lib.hid hS
  clear hS hv
  go_enter Tryz.func10,Tryz.ntmps10
  go_wp2_with (first
    | (go_at_call 14;(with_reducible refine (KV.out _ (HS.out.up (((Up.refl w).alloc _ _).alloc _ _))).mono ?_);rintro e w1 ⟨rfl,hu⟩;have hv:=(((Up.refl w).alloc #[.int .i64 v,.int .i64 q,.int .i64 c,.int .i64 now,.int .i64 seq,.slice A n k] 24).alloc #[.int .i64 0,.int .i64 0,.int .i64 0,.int .i64 0,.int .i64 0,.slice none 0 0] 24).trans hu;have HV1:=Lib.hid hv;have HU1:=Lib.hid ((Up.refl w).trans hv);have a_1_0:=hu.keep (w.heap.size) 0 (.int .i64 v) (by simp [go_sem]);have a_1_1:=hu.keep (w.heap.size) 1 (.int .i64 q) (by simp [go_sem]);have a_1_2:=hu.keep (w.heap.size) 2 (.int .i64 c) (by simp [go_sem]);have a_1_3:=hu.keep (w.heap.size) 3 (.int .i64 now) (by simp [go_sem]);have a_1_4:=hu.keep (w.heap.size) 4 (.int .i64 seq) (by simp [go_sem]);have a_1_5:=hu.keep (w.heap.size) 5 (.slice A n k) (by simp [go_sem]);have r_1_0:=hu.keep (w.heap.size+1) 0 (.int .i64 0) (by simp [go_sem]);have r_1_1:=hu.keep (w.heap.size+1) 1 (.int .i64 0) (by simp [go_sem]);have r_1_2:=hu.keep (w.heap.size+1) 2 (.int .i64 0) (by simp [go_sem]);have r_1_3:=hu.keep (w.heap.size+1) 3 (.int .i64 0) (by simp [go_sem]);have r_1_4:=hu.keep (w.heap.size+1) 4 (.int .i64 0) (by simp [go_sem]);have r_1_5:=hu.keep (w.heap.size+1) 5 (.slice none 0 0) (by simp [go_sem]);have la1:=World.block_lt_of_cell? _ _ a_1_0;have lr1:=World.block_lt_of_cell? _ _ r_1_0;have z0:=HU1.out.ownGe (g:=w.heap.size+1) (by omega) 0;have z1:=HU1.out.ownGe (g:=w.heap.size+1) (by omega) 1;have z2:=HU1.out.ownGe (g:=w.heap.size+1) (by omega) 2;have z3:=HU1.out.ownGe (g:=w.heap.size+1) (by omega) 3;have z4:=HU1.out.ownGe (g:=w.heap.size+1) (by omega) 4;have z5:=HU1.out.ownGe (g:=w.heap.size+1) (by omega) 5;clear hu hv ))
  refine bodyPost_ret (v:=.tuple #[.agg #[.int .i64 0,.int .i64 0,.int .i64 0,.int .i64 0,.int .i64 0,.slice none 0 0],.int .i64 2]) (by simp [results,Tryz.results10,go_sem,r_1_0,r_1_1,r_1_2,r_1_3,r_1_4,r_1_5]) rfl ⟨rfl,?_⟩
  exact HU1.out.setP6 (by omega)

set_option maxHeartbeats 4000000 in
set_option maxRecDepth 100000 in
theorem radd14_range (v q c now seq d:Int) (n k:Nat) (A:Option Addr) (X:List Mrk) (hn:n≤50000) (hk:n≤k) (hv:stP v q c now seq X=true) (hd:¬ valG 4 d) (w:World) (hS:SG cM w A n X) :
    Calls Tryz.prog 10 #[.agg #[.int .i64 v,.int .i64 q,.int .i64 c,.int .i64 now,.int .i64 seq,.slice A n k],.int .i64 d] w fun e w'=>e=.returned (.tuple #[.agg #[.int .i64 0,.int .i64 0,.int .i64 0,.int .i64 0,.int .i64 0,.slice none 0 0],.int .i64 4])∧Up w w':=by
  have KV:=Lib.hid (fun W (h:SG cM W A n X)=>rvalidate14_up v q c now seq n k A X hn W h)
  rw [stPE_yes hv] at KV
  have HS:=Lib.hid hS
  have KI:=Lib.hid (rvalue_any d)
  rw [val4_iff,Bool.not_eq_true] at hd
  rw [hd] at KI
  clear hS hv hd
  go_enter Tryz.func10,Tryz.ntmps10
  go_wp2_with (first
    | (go_at_call 14;(with_reducible refine (KV.out _ (HS.out.up (((Up.refl w).alloc _ _).alloc _ _))).mono ?_);rintro e w1 ⟨rfl,hu⟩;have hv:=(((Up.refl w).alloc #[.int .i64 v,.int .i64 q,.int .i64 c,.int .i64 now,.int .i64 seq,.slice A n k] 24).alloc #[.int .i64 0,.int .i64 0,.int .i64 0,.int .i64 0,.int .i64 0,.slice none 0 0] 24).trans hu;have HV1:=Lib.hid hv;have HU1:=Lib.hid ((Up.refl w).trans hv);have a_1_0:=hu.keep (w.heap.size) 0 (.int .i64 v) (by simp [go_sem]);have a_1_1:=hu.keep (w.heap.size) 1 (.int .i64 q) (by simp [go_sem]);have a_1_2:=hu.keep (w.heap.size) 2 (.int .i64 c) (by simp [go_sem]);have a_1_3:=hu.keep (w.heap.size) 3 (.int .i64 now) (by simp [go_sem]);have a_1_4:=hu.keep (w.heap.size) 4 (.int .i64 seq) (by simp [go_sem]);have a_1_5:=hu.keep (w.heap.size) 5 (.slice A n k) (by simp [go_sem]);have r_1_0:=hu.keep (w.heap.size+1) 0 (.int .i64 0) (by simp [go_sem]);have r_1_1:=hu.keep (w.heap.size+1) 1 (.int .i64 0) (by simp [go_sem]);have r_1_2:=hu.keep (w.heap.size+1) 2 (.int .i64 0) (by simp [go_sem]);have r_1_3:=hu.keep (w.heap.size+1) 3 (.int .i64 0) (by simp [go_sem]);have r_1_4:=hu.keep (w.heap.size+1) 4 (.int .i64 0) (by simp [go_sem]);have r_1_5:=hu.keep (w.heap.size+1) 5 (.slice none 0 0) (by simp [go_sem]);have la1:=World.block_lt_of_cell? _ _ a_1_0;have lr1:=World.block_lt_of_cell? _ _ r_1_0;have z0:=HU1.out.ownGe (g:=w.heap.size+1) (by omega) 0;have z1:=HU1.out.ownGe (g:=w.heap.size+1) (by omega) 1;have z2:=HU1.out.ownGe (g:=w.heap.size+1) (by omega) 2;have z3:=HU1.out.ownGe (g:=w.heap.size+1) (by omega) 3;have z4:=HU1.out.ownGe (g:=w.heap.size+1) (by omega) 4;have z5:=HU1.out.ownGe (g:=w.heap.size+1) (by omega) 5;clear hu hv )
    | (go_at_call 33;(with_reducible refine (KI.out _).mono ?_);rintro e w2 ⟨rfl,rfl⟩))
  refine bodyPost_ret (v:=.tuple #[.agg #[.int .i64 0,.int .i64 0,.int .i64 0,.int .i64 0,.int .i64 0,.slice none 0 0],.int .i64 4]) (by simp [results,Tryz.results10,go_sem,r_1_0,r_1_1,r_1_2,r_1_3,r_1_4,r_1_5]) rfl ⟨rfl,?_⟩
  exact HU1.out.setP6 (by omega)

set_option maxHeartbeats 4000000 in
set_option maxRecDepth 100000 in
theorem radd14_full (v q c now seq d:Int) (n k:Nat) (A:Option Addr) (X:List Mrk) (hn:n≤50000) (hk:n≤k) (hv:stP v q c now seq X=true) (hd:valG 4 d) (hf:fuM c seq X=true) (w:World) (hS:SG cM w A n X) :
    Calls Tryz.prog 10 #[.agg #[.int .i64 v,.int .i64 q,.int .i64 c,.int .i64 now,.int .i64 seq,.slice A n k],.int .i64 d] w fun e w'=>e=.returned (.tuple #[.agg #[.int .i64 0,.int .i64 0,.int .i64 0,.int .i64 0,.int .i64 0,.slice none 0 0],.int .i64 5])∧Up w w':=by
  have KV:=Lib.hid (fun W (h:SG cM W A n X)=>rvalidate14_up v q c now seq n k A X hn W h)
  rw [stPE_yes hv] at KV
  have HS:=Lib.hid hS
  have KI:=Lib.hid (rvalue_any d)
  rw [val4_iff] at hd
  rw [hd] at KI
  have HF:Hid (0<n∧(X.getD 0 mk0).n=c∨seq=1099511627776):=Lib.hid (by
    unfold fuM at hf
    rw [hS.1,Bool.or_eq_true,Bool.and_eq_true,decide_eq_true_eq,decide_eq_true_eq,decide_eq_true_eq] at hf
    exact hf)
  clear hS hv hd hf
  by_cases h0:0<n
  · have f20:(0:Int)<n:=by omega
    obtain ⟨b,o,rfl,_⟩:=mrk_at HS.out mk0 h0
    have HT:=Lib.hid (fun W (h:Up w W)=>(mrk_prev (HS.out.up h) h0).2.2.1)
    simp only [Nat.zero_mul,Nat.add_zero] at HT
    generalize (X.getD 0 mk0).n=x0 at *
    by_cases hc:x0=c
    · subst hc
      clear HF
      go_enter Tryz.func10,Tryz.ntmps10
      go_upto_region 6 with (first | (go_at_call 33;(with_reducible refine (KI.out _).mono ?_);rintro e w2 ⟨rfl,rfl⟩) | (go_at_call 14;(with_reducible refine (KV.out _ (HS.out.up (((Up.refl w).alloc _ _).alloc _ _))).mono ?_);rintro e w1 ⟨rfl,hu⟩;have hv:=(((Up.refl w).alloc #[.int .i64 v,.int .i64 q,.int .i64 x0,.int .i64 now,.int .i64 seq,.slice (some ⟨b,o,none⟩) n k] 24).alloc #[.int .i64 0,.int .i64 0,.int .i64 0,.int .i64 0,.int .i64 0,.slice none 0 0] 24).trans hu;have HV1:=Lib.hid hv;have HU1:=Lib.hid ((Up.refl w).trans hv);have a_1_0:=hu.keep (w.heap.size) 0 (.int .i64 v) (by simp [go_sem]);have a_1_1:=hu.keep (w.heap.size) 1 (.int .i64 q) (by simp [go_sem]);have a_1_2:=hu.keep (w.heap.size) 2 (.int .i64 x0) (by simp [go_sem]);have a_1_3:=hu.keep (w.heap.size) 3 (.int .i64 now) (by simp [go_sem]);have a_1_4:=hu.keep (w.heap.size) 4 (.int .i64 seq) (by simp [go_sem]);have a_1_5:=hu.keep (w.heap.size) 5 (.slice (some ⟨b,o,none⟩) n k) (by simp [go_sem]);have r_1_0:=hu.keep (w.heap.size+1) 0 (.int .i64 0) (by simp [go_sem]);have r_1_1:=hu.keep (w.heap.size+1) 1 (.int .i64 0) (by simp [go_sem]);have r_1_2:=hu.keep (w.heap.size+1) 2 (.int .i64 0) (by simp [go_sem]);have r_1_3:=hu.keep (w.heap.size+1) 3 (.int .i64 0) (by simp [go_sem]);have r_1_4:=hu.keep (w.heap.size+1) 4 (.int .i64 0) (by simp [go_sem]);have r_1_5:=hu.keep (w.heap.size+1) 5 (.slice none 0 0) (by simp [go_sem]);have la1:=World.block_lt_of_cell? _ _ a_1_0;have lr1:=World.block_lt_of_cell? _ _ r_1_0;have z0:=HU1.out.ownGe (g:=w.heap.size+1) (by omega) 0;have z1:=HU1.out.ownGe (g:=w.heap.size+1) (by omega) 1;have z2:=HU1.out.ownGe (g:=w.heap.size+1) (by omega) 2;have z3:=HU1.out.ownGe (g:=w.heap.size+1) (by omega) 3;have z4:=HU1.out.ownGe (g:=w.heap.size+1) (by omega) 4;have z5:=HU1.out.ownGe (g:=w.heap.size+1) (by omega) 5;have y0:=HU1.out.ownGe (g:=w.heap.size) (by omega) 0;have y1:=HU1.out.ownGe (g:=w.heap.size) (by omega) 1;have y2:=HU1.out.ownGe (g:=w.heap.size) (by omega) 2;have y3:=HU1.out.ownGe (g:=w.heap.size) (by omega) 3;have y4:=HU1.out.ownGe (g:=w.heap.size) (by omega) 4;have y5:=HU1.out.ownGe (g:=w.heap.size) (by omega) 5;clear hu hv ))
      have hd2:=HT.out _ HU1.out
      have HSS:Hid (Up w w1∧w1.cell? ⟨w.heap.size,0,none⟩=some (.int .i64 v)∧w1.cell? ⟨w.heap.size,1,none⟩=some (.int .i64 q)∧w1.cell? ⟨w.heap.size,2,none⟩=some (.int .i64 x0)∧w1.cell? ⟨w.heap.size,3,none⟩=some (.int .i64 now)∧w1.cell? ⟨w.heap.size,4,none⟩=some (.int .i64 seq)∧w1.cell? ⟨w.heap.size,5,none⟩=some (.slice (some ⟨b,o,none⟩) n k)∧w1.cell? ⟨(w.heap.size+1),0,none⟩=some (.int .i64 0)∧w1.cell? ⟨(w.heap.size+1),1,none⟩=some (.int .i64 0)∧w1.cell? ⟨(w.heap.size+1),2,none⟩=some (.int .i64 0)∧w1.cell? ⟨(w.heap.size+1),3,none⟩=some (.int .i64 0)∧w1.cell? ⟨(w.heap.size+1),4,none⟩=some (.int .i64 0)∧w1.cell? ⟨(w.heap.size+1),5,none⟩=some (.slice none 0 0)∧w1.cell? ⟨b,o+2,none⟩=some (.int .i64 x0)):=Lib.hid ⟨HU1.out,a_1_0,a_1_1,a_1_2,a_1_3,a_1_4,a_1_5,r_1_0,r_1_1,r_1_2,r_1_3,r_1_4,r_1_5,hd2⟩
      clear hd2 HT
      go_wp2_with fail
      refine wp_region_held_drew (S:=fun w'=>Up w w'∧w'.cell? ⟨w.heap.size,0,none⟩=some (.int .i64 v)∧w'.cell? ⟨w.heap.size,1,none⟩=some (.int .i64 q)∧w'.cell? ⟨w.heap.size,2,none⟩=some (.int .i64 x0)∧w'.cell? ⟨w.heap.size,3,none⟩=some (.int .i64 now)∧w'.cell? ⟨w.heap.size,4,none⟩=some (.int .i64 seq)∧w'.cell? ⟨w.heap.size,5,none⟩=some (.slice (some ⟨b,o,none⟩) n k)∧w'.cell? ⟨(w.heap.size+1),0,none⟩=some (.int .i64 0)∧w'.cell? ⟨(w.heap.size+1),1,none⟩=some (.int .i64 0)∧w'.cell? ⟨(w.heap.size+1),2,none⟩=some (.int .i64 0)∧w'.cell? ⟨(w.heap.size+1),3,none⟩=some (.int .i64 0)∧w'.cell? ⟨(w.heap.size+1),4,none⟩=some (.int .i64 0)∧w'.cell? ⟨(w.heap.size+1),5,none⟩=some (.slice none 0 0)∧w'.cell? ⟨b,o+2,none⟩=some (.int .i64 x0)) (by kernel_rfl) ?hB1 (fun hHeld=>?_)
      case hB1=>(first | (with_reducible assumption) | (with_reducible exact keepL13 (Lib.hid (Up.refl _).drew) HSS.out))
      refine takeT 0 rfl (by assumption) ?_
      (try simp only [Act.put,stpA,stpB,stpC])
      refine takeT 1 rfl (by assumption) ?_
      (try simp only [Act.put,stpA,stpB,stpC])
      refine takeT 2 rfl (by assumption) ?_
      (try simp only [Act.put,stpA,stpB,stpC])
      refine takeT 3 rfl (by assumption) ?_
      (try simp only [Act.put,stpA,stpB,stpC])
      refine takeT 4 rfl (by assumption) ?_
      (try simp only [Act.put,stpA,stpB,stpC])
      refine takeT 5 rfl (by assumption) ?_
      (try simp only [Act.put,stpA,stpB,stpC])
      refine takeT 6 rfl (by assumption) ?_
      (try simp only [Act.put,stpA,stpB,stpC])
      refine takeT 7 rfl (by assumption) ?_
      (try simp only [Act.put,stpA,stpB,stpC])
      refine takeT 8 rfl (by assumption) ?_
      (try simp only [Act.put,stpA,stpB,stpC])
      refine takeT 9 rfl (by assumption) ?_
      (try simp only [Act.put,stpA,stpB,stpC])
      refine takeT 10 rfl (by assumption) ?_
      (try simp only [Act.put,stpA,stpB,stpC])
      refine takeT 11 rfl (by assumption) ?_
      (try simp only [Act.put,stpA,stpB,stpC])
      refine takeT 12 rfl (by assumption) ?_
      (try simp only [Act.put,stpA,stpB,stpC])
      refine takeT 13 rfl (by assumption) ?_
      (try simp only [Act.put,stpA,stpB,stpC])
      refine takeT 14 rfl (by assumption) ?_
      (try simp only [Act.put,stpA,stpB,stpC])
      refine takeU 15 rfl (by assumption) ?_
      (try simp only [Act.put,stpA,stpB,stpC])
      refine takeU 16 rfl (by assumption) ?_
      (try simp only [Act.put,stpA,stpB,stpC])
      refine takeU 17 rfl (by assumption) ?_
      (try simp only [Act.put,stpA,stpB,stpC])
      refine takeT 18 rfl (by assumption) ?_
      (try simp only [Act.put,stpA,stpB,stpC])
      refine wpAnyH_done (by kernel_rfl) ?_ _
      (try clear hHeld)
      (repeat clear ‹Up w _∧_›)
      go_wp2_with fail
      refine bodyPost_ret (v:=.tuple #[.agg #[.int .i64 0,.int .i64 0,.int .i64 0,.int .i64 0,.int .i64 0,.slice none 0 0],.int .i64 5]) (by simp [results,Tryz.results10,go_sem,r_1_0,r_1_1,r_1_2,r_1_3,r_1_4,r_1_5]) rfl ⟨rfl,?_⟩
      exact (HU1.out.setP6 (by omega)).drew
    · obtain rfl:seq=1099511627776:=HF.out.elim (fun h=>absurd h.2 hc) id
      have t1:(x0 == c)=false:=beq_eq_false_iff_ne.2 hc
      clear HF hc
      go_enter Tryz.func10,Tryz.ntmps10
      go_upto_region 6 with (first | (go_at_call 33;(with_reducible refine (KI.out _).mono ?_);rintro e w2 ⟨rfl,rfl⟩) | (go_at_call 14;(with_reducible refine (KV.out _ (HS.out.up (((Up.refl w).alloc _ _).alloc _ _))).mono ?_);rintro e w1 ⟨rfl,hu⟩;have hv:=(((Up.refl w).alloc #[.int .i64 v,.int .i64 q,.int .i64 c,.int .i64 now,.int .i64 1099511627776,.slice (some ⟨b,o,none⟩) n k] 24).alloc #[.int .i64 0,.int .i64 0,.int .i64 0,.int .i64 0,.int .i64 0,.slice none 0 0] 24).trans hu;have HV1:=Lib.hid hv;have HU1:=Lib.hid ((Up.refl w).trans hv);have a_1_0:=hu.keep (w.heap.size) 0 (.int .i64 v) (by simp [go_sem]);have a_1_1:=hu.keep (w.heap.size) 1 (.int .i64 q) (by simp [go_sem]);have a_1_2:=hu.keep (w.heap.size) 2 (.int .i64 c) (by simp [go_sem]);have a_1_3:=hu.keep (w.heap.size) 3 (.int .i64 now) (by simp [go_sem]);have a_1_4:=hu.keep (w.heap.size) 4 (.int .i64 1099511627776) (by simp [go_sem]);have a_1_5:=hu.keep (w.heap.size) 5 (.slice (some ⟨b,o,none⟩) n k) (by simp [go_sem]);have r_1_0:=hu.keep (w.heap.size+1) 0 (.int .i64 0) (by simp [go_sem]);have r_1_1:=hu.keep (w.heap.size+1) 1 (.int .i64 0) (by simp [go_sem]);have r_1_2:=hu.keep (w.heap.size+1) 2 (.int .i64 0) (by simp [go_sem]);have r_1_3:=hu.keep (w.heap.size+1) 3 (.int .i64 0) (by simp [go_sem]);have r_1_4:=hu.keep (w.heap.size+1) 4 (.int .i64 0) (by simp [go_sem]);have r_1_5:=hu.keep (w.heap.size+1) 5 (.slice none 0 0) (by simp [go_sem]);have la1:=World.block_lt_of_cell? _ _ a_1_0;have lr1:=World.block_lt_of_cell? _ _ r_1_0;have z0:=HU1.out.ownGe (g:=w.heap.size+1) (by omega) 0;have z1:=HU1.out.ownGe (g:=w.heap.size+1) (by omega) 1;have z2:=HU1.out.ownGe (g:=w.heap.size+1) (by omega) 2;have z3:=HU1.out.ownGe (g:=w.heap.size+1) (by omega) 3;have z4:=HU1.out.ownGe (g:=w.heap.size+1) (by omega) 4;have z5:=HU1.out.ownGe (g:=w.heap.size+1) (by omega) 5;have y0:=HU1.out.ownGe (g:=w.heap.size) (by omega) 0;have y1:=HU1.out.ownGe (g:=w.heap.size) (by omega) 1;have y2:=HU1.out.ownGe (g:=w.heap.size) (by omega) 2;have y3:=HU1.out.ownGe (g:=w.heap.size) (by omega) 3;have y4:=HU1.out.ownGe (g:=w.heap.size) (by omega) 4;have y5:=HU1.out.ownGe (g:=w.heap.size) (by omega) 5;clear hu hv ))
      have hd2:=HT.out _ HU1.out
      have HSS:Hid (Up w w1∧w1.cell? ⟨w.heap.size,0,none⟩=some (.int .i64 v)∧w1.cell? ⟨w.heap.size,1,none⟩=some (.int .i64 q)∧w1.cell? ⟨w.heap.size,2,none⟩=some (.int .i64 c)∧w1.cell? ⟨w.heap.size,3,none⟩=some (.int .i64 now)∧w1.cell? ⟨w.heap.size,4,none⟩=some (.int .i64 1099511627776)∧w1.cell? ⟨w.heap.size,5,none⟩=some (.slice (some ⟨b,o,none⟩) n k)∧w1.cell? ⟨(w.heap.size+1),0,none⟩=some (.int .i64 0)∧w1.cell? ⟨(w.heap.size+1),1,none⟩=some (.int .i64 0)∧w1.cell? ⟨(w.heap.size+1),2,none⟩=some (.int .i64 0)∧w1.cell? ⟨(w.heap.size+1),3,none⟩=some (.int .i64 0)∧w1.cell? ⟨(w.heap.size+1),4,none⟩=some (.int .i64 0)∧w1.cell? ⟨(w.heap.size+1),5,none⟩=some (.slice none 0 0)∧w1.cell? ⟨b,o+2,none⟩=some (.int .i64 x0)):=Lib.hid ⟨HU1.out,a_1_0,a_1_1,a_1_2,a_1_3,a_1_4,a_1_5,r_1_0,r_1_1,r_1_2,r_1_3,r_1_4,r_1_5,hd2⟩
      clear hd2 HT
      go_wp2_with fail
      refine wp_region_held_drew (S:=fun w'=>Up w w'∧w'.cell? ⟨w.heap.size,0,none⟩=some (.int .i64 v)∧w'.cell? ⟨w.heap.size,1,none⟩=some (.int .i64 q)∧w'.cell? ⟨w.heap.size,2,none⟩=some (.int .i64 c)∧w'.cell? ⟨w.heap.size,3,none⟩=some (.int .i64 now)∧w'.cell? ⟨w.heap.size,4,none⟩=some (.int .i64 1099511627776)∧w'.cell? ⟨w.heap.size,5,none⟩=some (.slice (some ⟨b,o,none⟩) n k)∧w'.cell? ⟨(w.heap.size+1),0,none⟩=some (.int .i64 0)∧w'.cell? ⟨(w.heap.size+1),1,none⟩=some (.int .i64 0)∧w'.cell? ⟨(w.heap.size+1),2,none⟩=some (.int .i64 0)∧w'.cell? ⟨(w.heap.size+1),3,none⟩=some (.int .i64 0)∧w'.cell? ⟨(w.heap.size+1),4,none⟩=some (.int .i64 0)∧w'.cell? ⟨(w.heap.size+1),5,none⟩=some (.slice none 0 0)∧w'.cell? ⟨b,o+2,none⟩=some (.int .i64 x0)) (by kernel_rfl) ?hB18 (fun hHeld=>?_)
      case hB18=>(first | (with_reducible assumption) | (with_reducible exact keepL13 (Lib.hid (Up.refl _).drew) HSS.out))
      refine takeT 0 rfl (by assumption) ?_
      (try simp only [Act.put,stpA,stpB,stpC])
      refine takeT 1 rfl (by assumption) ?_
      (try simp only [Act.put,stpA,stpB,stpC])
      refine takeT 2 rfl (by assumption) ?_
      (try simp only [Act.put,stpA,stpB,stpC])
      refine takeT 3 rfl (by assumption) ?_
      (try simp only [Act.put,stpA,stpB,stpC])
      refine takeT 4 rfl (by assumption) ?_
      (try simp only [Act.put,stpA,stpB,stpC])
      refine takeT 5 rfl (by assumption) ?_
      (try simp only [Act.put,stpA,stpB,stpC])
      refine takeT 6 rfl (by assumption) ?_
      (try simp only [Act.put,stpA,stpB,stpC])
      refine takeT 7 rfl (by assumption) ?_
      (try simp only [Act.put,stpA,stpB,stpC])
      refine takeT 8 rfl (by assumption) ?_
      (try simp only [Act.put,stpA,stpB,stpC])
      refine takeT 9 rfl (by assumption) ?_
      (try simp only [Act.put,stpA,stpB,stpC])
      refine takeT 10 rfl (by assumption) ?_
      (try simp only [Act.put,stpA,stpB,stpC])
      refine takeT 11 rfl (by assumption) ?_
      (try simp only [Act.put,stpA,stpB,stpC])
      refine takeT 12 rfl (by assumption) ?_
      (try simp only [Act.put,stpA,stpB,stpC])
      refine takeT 13 rfl (by assumption) ?_
      (try simp only [Act.put,stpA,stpB,stpC])
      refine takeT 14 rfl (by assumption) ?_
      (try simp only [Act.put,stpA,stpB,stpC])
      refine takeT 15 rfl (by assumption) ?_
      (try simp only [Act.put,stpA,stpB,stpC])
      refine takeT 16 rfl (by assumption) ?_
      (try simp only [Act.put,stpA,stpB,stpC])
      refine takeT 17 rfl (by assumption) ?_
      (try simp only [Act.put,stpA,stpB,stpC])
      refine takeT 18 rfl (by assumption) ?_
      (try simp only [Act.put,stpA,stpB,stpC])
      refine wpAnyH_done (by kernel_rfl) ?_ _
      (try clear hHeld)
      (repeat clear ‹Up w _∧_›)
      go_wp2_with fail
      refine bodyPost_ret (v:=.tuple #[.agg #[.int .i64 0,.int .i64 0,.int .i64 0,.int .i64 0,.int .i64 0,.slice none 0 0],.int .i64 5]) (by simp [results,Tryz.results10,go_sem,r_1_0,r_1_1,r_1_2,r_1_3,r_1_4,r_1_5]) rfl ⟨rfl,?_⟩
      exact (HU1.out.setP6 (by omega)).drew
  · obtain rfl:seq=1099511627776:=HF.out.elim (fun h=>absurd h.1 h0) id
    have t1:decide ((0:Int)<n)=false:=decide_eq_false (by omega)
    have t1n:decide (0<n)=false:=decide_eq_false h0
    have t1p:(0<n)=False:=eq_false h0
    clear HF h0
    go_enter Tryz.func10,Tryz.ntmps10
    go_upto_region 6 with (first | (go_at_call 33;(with_reducible refine (KI.out _).mono ?_);rintro e w2 ⟨rfl,rfl⟩) | (go_at_call 14;(with_reducible refine (KV.out _ (HS.out.up (((Up.refl w).alloc _ _).alloc _ _))).mono ?_);rintro e w1 ⟨rfl,hu⟩;have hv:=(((Up.refl w).alloc #[.int .i64 v,.int .i64 q,.int .i64 c,.int .i64 now,.int .i64 1099511627776,.slice A n k] 24).alloc #[.int .i64 0,.int .i64 0,.int .i64 0,.int .i64 0,.int .i64 0,.slice none 0 0] 24).trans hu;have HV1:=Lib.hid hv;have HU1:=Lib.hid ((Up.refl w).trans hv);have a_1_0:=hu.keep (w.heap.size) 0 (.int .i64 v) (by simp [go_sem]);have a_1_1:=hu.keep (w.heap.size) 1 (.int .i64 q) (by simp [go_sem]);have a_1_2:=hu.keep (w.heap.size) 2 (.int .i64 c) (by simp [go_sem]);have a_1_3:=hu.keep (w.heap.size) 3 (.int .i64 now) (by simp [go_sem]);have a_1_4:=hu.keep (w.heap.size) 4 (.int .i64 1099511627776) (by simp [go_sem]);have a_1_5:=hu.keep (w.heap.size) 5 (.slice A n k) (by simp [go_sem]);have r_1_0:=hu.keep (w.heap.size+1) 0 (.int .i64 0) (by simp [go_sem]);have r_1_1:=hu.keep (w.heap.size+1) 1 (.int .i64 0) (by simp [go_sem]);have r_1_2:=hu.keep (w.heap.size+1) 2 (.int .i64 0) (by simp [go_sem]);have r_1_3:=hu.keep (w.heap.size+1) 3 (.int .i64 0) (by simp [go_sem]);have r_1_4:=hu.keep (w.heap.size+1) 4 (.int .i64 0) (by simp [go_sem]);have r_1_5:=hu.keep (w.heap.size+1) 5 (.slice none 0 0) (by simp [go_sem]);have la1:=World.block_lt_of_cell? _ _ a_1_0;have lr1:=World.block_lt_of_cell? _ _ r_1_0;have z0:=HU1.out.ownGe (g:=w.heap.size+1) (by omega) 0;have z1:=HU1.out.ownGe (g:=w.heap.size+1) (by omega) 1;have z2:=HU1.out.ownGe (g:=w.heap.size+1) (by omega) 2;have z3:=HU1.out.ownGe (g:=w.heap.size+1) (by omega) 3;have z4:=HU1.out.ownGe (g:=w.heap.size+1) (by omega) 4;have z5:=HU1.out.ownGe (g:=w.heap.size+1) (by omega) 5;have y0:=HU1.out.ownGe (g:=w.heap.size) (by omega) 0;have y1:=HU1.out.ownGe (g:=w.heap.size) (by omega) 1;have y2:=HU1.out.ownGe (g:=w.heap.size) (by omega) 2;have y3:=HU1.out.ownGe (g:=w.heap.size) (by omega) 3;have y4:=HU1.out.ownGe (g:=w.heap.size) (by omega) 4;have y5:=HU1.out.ownGe (g:=w.heap.size) (by omega) 5;clear hu hv ))
    have HSS:Hid (Up w w1∧w1.cell? ⟨w.heap.size,0,none⟩=some (.int .i64 v)∧w1.cell? ⟨w.heap.size,1,none⟩=some (.int .i64 q)∧w1.cell? ⟨w.heap.size,2,none⟩=some (.int .i64 c)∧w1.cell? ⟨w.heap.size,3,none⟩=some (.int .i64 now)∧w1.cell? ⟨w.heap.size,4,none⟩=some (.int .i64 1099511627776)∧w1.cell? ⟨w.heap.size,5,none⟩=some (.slice A n k)∧w1.cell? ⟨(w.heap.size+1),0,none⟩=some (.int .i64 0)∧w1.cell? ⟨(w.heap.size+1),1,none⟩=some (.int .i64 0)∧w1.cell? ⟨(w.heap.size+1),2,none⟩=some (.int .i64 0)∧w1.cell? ⟨(w.heap.size+1),3,none⟩=some (.int .i64 0)∧w1.cell? ⟨(w.heap.size+1),4,none⟩=some (.int .i64 0)∧w1.cell? ⟨(w.heap.size+1),5,none⟩=some (.slice none 0 0)):=Lib.hid ⟨HU1.out,a_1_0,a_1_1,a_1_2,a_1_3,a_1_4,a_1_5,r_1_0,r_1_1,r_1_2,r_1_3,r_1_4,r_1_5⟩
    skip
    go_wp2_with fail
    refine wp_region_held_drew (S:=fun w'=>Up w w'∧w'.cell? ⟨w.heap.size,0,none⟩=some (.int .i64 v)∧w'.cell? ⟨w.heap.size,1,none⟩=some (.int .i64 q)∧w'.cell? ⟨w.heap.size,2,none⟩=some (.int .i64 c)∧w'.cell? ⟨w.heap.size,3,none⟩=some (.int .i64 now)∧w'.cell? ⟨w.heap.size,4,none⟩=some (.int .i64 1099511627776)∧w'.cell? ⟨w.heap.size,5,none⟩=some (.slice A n k)∧w'.cell? ⟨(w.heap.size+1),0,none⟩=some (.int .i64 0)∧w'.cell? ⟨(w.heap.size+1),1,none⟩=some (.int .i64 0)∧w'.cell? ⟨(w.heap.size+1),2,none⟩=some (.int .i64 0)∧w'.cell? ⟨(w.heap.size+1),3,none⟩=some (.int .i64 0)∧w'.cell? ⟨(w.heap.size+1),4,none⟩=some (.int .i64 0)∧w'.cell? ⟨(w.heap.size+1),5,none⟩=some (.slice none 0 0)) (by kernel_rfl) ?hB38 (fun hHeld=>?_)
    case hB38=>(first | (with_reducible assumption) | (with_reducible exact keepL12 (Lib.hid (Up.refl _).drew) HSS.out))
    refine takeT 0 rfl (by assumption) ?_
    (try simp only [Act.put,stpA,stpB,stpC])
    refine takeT 1 rfl (by assumption) ?_
    (try simp only [Act.put,stpA,stpB,stpC])
    refine takeT 2 rfl (by assumption) ?_
    (try simp only [Act.put,stpA,stpB,stpC])
    refine takeT 3 rfl (by assumption) ?_
    (try simp only [Act.put,stpA,stpB,stpC])
    refine takeT 4 rfl (by assumption) ?_
    (try simp only [Act.put,stpA,stpB,stpC])
    refine takeU 5 rfl (by assumption) ?_
    (try simp only [Act.put,stpA,stpB,stpC])
    refine takeU 6 rfl (by assumption) ?_
    (try simp only [Act.put,stpA,stpB,stpC])
    refine takeU 7 rfl (by assumption) ?_
    (try simp only [Act.put,stpA,stpB,stpC])
    refine takeU 8 rfl (by assumption) ?_
    (try simp only [Act.put,stpA,stpB,stpC])
    refine takeU 9 rfl (by assumption) ?_
    (try simp only [Act.put,stpA,stpB,stpC])
    refine takeU 10 rfl (by assumption) ?_
    (try simp only [Act.put,stpA,stpB,stpC])
    refine takeU 11 rfl (by assumption) ?_
    (try simp only [Act.put,stpA,stpB,stpC])
    refine takeU 12 rfl (by assumption) ?_
    (try simp only [Act.put,stpA,stpB,stpC])
    refine takeT 13 rfl (by assumption) ?_
    (try simp only [Act.put,stpA,stpB,stpC])
    refine takeT 14 rfl (by assumption) ?_
    (try simp only [Act.put,stpA,stpB,stpC])
    refine takeT 15 rfl (by assumption) ?_
    (try simp only [Act.put,stpA,stpB,stpC])
    refine takeT 16 rfl (by assumption) ?_
    (try simp only [Act.put,stpA,stpB,stpC])
    refine takeT 17 rfl (by assumption) ?_
    (try simp only [Act.put,stpA,stpB,stpC])
    refine takeT 18 rfl (by assumption) ?_
    (try simp only [Act.put,stpA,stpB,stpC])
    refine wpAnyH_done (by kernel_rfl) ?_ _
    (try clear hHeld)
    (repeat clear ‹Up w _∧_›)
    go_wp2_with fail
    refine bodyPost_ret (v:=.tuple #[.agg #[.int .i64 0,.int .i64 0,.int .i64 0,.int .i64 0,.int .i64 0,.slice none 0 0],.int .i64 5]) (by simp [results,Tryz.results10,go_sem,r_1_0,r_1_1,r_1_2,r_1_3,r_1_4,r_1_5]) rfl ⟨rfl,?_⟩
    exact (HU1.out.setP6 (by omega)).drew

set_option maxHeartbeats 4000000 in
set_option maxRecDepth 100000 in
theorem radd14_good_pos (v q c now seq d:Int) (n k:Nat) (A:Option Addr) (X:List Mrk) (hn:n≤50000) (hk:n≤k) (h0:0<n) (hv:stP v q c now seq X=true) (hd:valG 4 d) (hf:fuM c seq X=false) (w:World) (hS:SG cM w A n X) :
    Calls Tryz.prog 10 #[.agg #[.int .i64 v,.int .i64 q,.int .i64 c,.int .i64 now,.int .i64 seq,.slice A n k],.int .i64 d] w fun e w'=>∃ A' n' k',e=.returned (.tuple #[.agg #[.int .i64 v,.int .i64 q,.int .i64 c,.int .i64 now,.int .i64 (seq+1),.slice A' n' k'],.int .i64 0])∧n'≤n+1∧n'≤k'∧Up w w'∧SG cM w' A' n' (adS q seq now d X):=by
  have HL:=Lib.hid hS.1
  obtain ⟨hs2,hD,hAN⟩:=good14 hS.1 hv hd hf
  have KV:=Lib.hid (fun W (h:SG cM W A n X)=>rvalidate14_up v q c now seq n k A X hn W h)
  rw [stPE_yes hv] at KV
  have HS:=Lib.hid hS
  have KI:=Lib.hid (rvalue_any d)
  have w5_:IntKind.i64.wrap (seq+1)=seq+1:=by rw [IntKind.wrap_i64];omega
  have KE:=Lib.hid (fun W (h:Up w W)=>rinclude_up n k A X (seq+1) now d hn hD hd.1 hd.2.1 W (hS.up h))
  have HZ:Hid (prL (clQ q) (n+1) (inM (seq+1) now d X)=adS q seq now d X):=Lib.hid (by rw [← HL.out];rfl)
  rw [val4_iff] at hd
  rw [hd] at KI
  clear hD hAN hs2
  have KC:=Lib.hid (fun (P M:Mrk)=>rclose14_up P.sq P.t P.n P.s P.q P.lo P.hi M.sq M.t M.n M.s M.q M.lo M.hi q)
  generalize adS q seq now d X=Z at *
  generalize inM (seq+1) now d X=M3 at *
  have HSn:=Lib.hid hS
  clear hS hv hd
  obtain ⟨b,o,rfl,_⟩:=mrk_at HSn.out mk0 h0
  have HF:Hid ((X.getD 0 mk0).n ≠ c∧seq ≠ 1099511627776):=Lib.hid (by
    unfold fuM at hf
    rw [HSn.out.1,Bool.or_eq_false_iff,Bool.and_eq_false_iff,decide_eq_false_iff_not,decide_eq_false_iff_not,decide_eq_false_iff_not] at hf
    exact ⟨hf.1.elim (fun h2=>absurd h0 h2) id,hf.2⟩)
  clear hf
  have t2:(seq == 1099511627776)=false:=beq_eq_false_iff_ne.2 HF.out.2
  have t3:((X.getD 0 mk0).n == c)=false:=beq_eq_false_iff_ne.2 HF.out.1
  have HT:=Lib.hid (fun W (h:Up w W)=>(mrk_prev (HSn.out.up h) h0).2.2.1)
  clear HF
  generalize (X.getD 0 mk0).n=x0 at *
  have f20:(0:Int)<n:=by omega
  simp only [Nat.zero_mul,Nat.add_zero] at HT
  go_enter Tryz.func10,Tryz.ntmps10
  go_upto_region 6 with (first | (go_at_call 33;(with_reducible refine (KI.out _).mono ?_);rintro e w2 ⟨rfl,rfl⟩) | (go_at_call 14;(with_reducible refine (KV.out _ (HS.out.up (((Up.refl w).alloc _ _).alloc _ _))).mono ?_);rintro e w1 ⟨rfl,hu⟩;have hv:=(((Up.refl w).alloc #[.int .i64 v,.int .i64 q,.int .i64 c,.int .i64 now,.int .i64 seq,.slice (some ⟨b,o,none⟩) n k] 24).alloc #[.int .i64 0,.int .i64 0,.int .i64 0,.int .i64 0,.int .i64 0,.slice none 0 0] 24).trans hu;have HV1:=Lib.hid hv;have HU1:=Lib.hid ((Up.refl w).trans hv);have a_1_0:=hu.keep (w.heap.size) 0 (.int .i64 v) (by simp [go_sem]);have a_1_1:=hu.keep (w.heap.size) 1 (.int .i64 q) (by simp [go_sem]);have a_1_2:=hu.keep (w.heap.size) 2 (.int .i64 c) (by simp [go_sem]);have a_1_3:=hu.keep (w.heap.size) 3 (.int .i64 now) (by simp [go_sem]);have a_1_4:=hu.keep (w.heap.size) 4 (.int .i64 seq) (by simp [go_sem]);have a_1_5:=hu.keep (w.heap.size) 5 (.slice (some ⟨b,o,none⟩) n k) (by simp [go_sem]);have r_1_0:=hu.keep (w.heap.size+1) 0 (.int .i64 0) (by simp [go_sem]);have r_1_1:=hu.keep (w.heap.size+1) 1 (.int .i64 0) (by simp [go_sem]);have r_1_2:=hu.keep (w.heap.size+1) 2 (.int .i64 0) (by simp [go_sem]);have r_1_3:=hu.keep (w.heap.size+1) 3 (.int .i64 0) (by simp [go_sem]);have r_1_4:=hu.keep (w.heap.size+1) 4 (.int .i64 0) (by simp [go_sem]);have r_1_5:=hu.keep (w.heap.size+1) 5 (.slice none 0 0) (by simp [go_sem]);have la1:=World.block_lt_of_cell? _ _ a_1_0;have lr1:=World.block_lt_of_cell? _ _ r_1_0;have z0:=HU1.out.ownGe (g:=w.heap.size+1) (by omega) 0;have z1:=HU1.out.ownGe (g:=w.heap.size+1) (by omega) 1;have z2:=HU1.out.ownGe (g:=w.heap.size+1) (by omega) 2;have z3:=HU1.out.ownGe (g:=w.heap.size+1) (by omega) 3;have z4:=HU1.out.ownGe (g:=w.heap.size+1) (by omega) 4;have z5:=HU1.out.ownGe (g:=w.heap.size+1) (by omega) 5;have y0:=HU1.out.ownGe (g:=w.heap.size) (by omega) 0;have y1:=HU1.out.ownGe (g:=w.heap.size) (by omega) 1;have y2:=HU1.out.ownGe (g:=w.heap.size) (by omega) 2;have y3:=HU1.out.ownGe (g:=w.heap.size) (by omega) 3;have y4:=HU1.out.ownGe (g:=w.heap.size) (by omega) 4;have y5:=HU1.out.ownGe (g:=w.heap.size) (by omega) 5;clear hu hv ))
  have hd2:=HT.out _ HU1.out
  have HSS:Hid (Up w w1∧w1.cell? ⟨w.heap.size,0,none⟩=some (.int .i64 v)∧w1.cell? ⟨w.heap.size,1,none⟩=some (.int .i64 q)∧w1.cell? ⟨w.heap.size,2,none⟩=some (.int .i64 c)∧w1.cell? ⟨w.heap.size,3,none⟩=some (.int .i64 now)∧w1.cell? ⟨w.heap.size,4,none⟩=some (.int .i64 seq)∧w1.cell? ⟨w.heap.size,5,none⟩=some (.slice (some ⟨b,o,none⟩) n k)∧w1.cell? ⟨(w.heap.size+1),0,none⟩=some (.int .i64 0)∧w1.cell? ⟨(w.heap.size+1),1,none⟩=some (.int .i64 0)∧w1.cell? ⟨(w.heap.size+1),2,none⟩=some (.int .i64 0)∧w1.cell? ⟨(w.heap.size+1),3,none⟩=some (.int .i64 0)∧w1.cell? ⟨(w.heap.size+1),4,none⟩=some (.int .i64 0)∧w1.cell? ⟨(w.heap.size+1),5,none⟩=some (.slice none 0 0)∧w1.cell? ⟨b,o+2,none⟩=some (.int .i64 x0)):=Lib.hid ⟨HU1.out,a_1_0,a_1_1,a_1_2,a_1_3,a_1_4,a_1_5,r_1_0,r_1_1,r_1_2,r_1_3,r_1_4,r_1_5,hd2⟩
  clear hd2 HT
  go_wp2_with fail
  refine wp_region_held_drew (S:=fun w'=>Up w w'∧w'.cell? ⟨w.heap.size,0,none⟩=some (.int .i64 v)∧w'.cell? ⟨w.heap.size,1,none⟩=some (.int .i64 q)∧w'.cell? ⟨w.heap.size,2,none⟩=some (.int .i64 c)∧w'.cell? ⟨w.heap.size,3,none⟩=some (.int .i64 now)∧w'.cell? ⟨w.heap.size,4,none⟩=some (.int .i64 seq)∧w'.cell? ⟨w.heap.size,5,none⟩=some (.slice (some ⟨b,o,none⟩) n k)∧w'.cell? ⟨(w.heap.size+1),0,none⟩=some (.int .i64 0)∧w'.cell? ⟨(w.heap.size+1),1,none⟩=some (.int .i64 0)∧w'.cell? ⟨(w.heap.size+1),2,none⟩=some (.int .i64 0)∧w'.cell? ⟨(w.heap.size+1),3,none⟩=some (.int .i64 0)∧w'.cell? ⟨(w.heap.size+1),4,none⟩=some (.int .i64 0)∧w'.cell? ⟨(w.heap.size+1),5,none⟩=some (.slice none 0 0)∧w'.cell? ⟨b,o+2,none⟩=some (.int .i64 x0)) (by kernel_rfl) ?hB50 (fun hHeld=>?_)
  case hB50=>(first | (with_reducible assumption) | (with_reducible exact keepL13 (Lib.hid (Up.refl _).drew) HSS.out))
  refine takeT 0 rfl (by assumption) ?_
  (try simp only [Act.put,stpA,stpB,stpC])
  refine takeT 1 rfl (by assumption) ?_
  (try simp only [Act.put,stpA,stpB,stpC])
  refine takeT 2 rfl (by assumption) ?_
  (try simp only [Act.put,stpA,stpB,stpC])
  refine takeT 3 rfl (by assumption) ?_
  (try simp only [Act.put,stpA,stpB,stpC])
  refine takeT 4 rfl (by assumption) ?_
  (try simp only [Act.put,stpA,stpB,stpC])
  refine takeT 5 rfl (by assumption) ?_
  (try simp only [Act.put,stpA,stpB,stpC])
  refine takeT 6 rfl (by assumption) ?_
  (try simp only [Act.put,stpA,stpB,stpC])
  refine takeT 7 rfl (by assumption) ?_
  (try simp only [Act.put,stpA,stpB,stpC])
  refine takeT 8 rfl (by assumption) ?_
  (try simp only [Act.put,stpA,stpB,stpC])
  refine takeT 9 rfl (by assumption) ?_
  (try simp only [Act.put,stpA,stpB,stpC])
  refine takeT 10 rfl (by assumption) ?_
  (try simp only [Act.put,stpA,stpB,stpC])
  refine takeT 11 rfl (by assumption) ?_
  (try simp only [Act.put,stpA,stpB,stpC])
  refine takeT 12 rfl (by assumption) ?_
  (try simp only [Act.put,stpA,stpB,stpC])
  refine takeT 13 rfl (by assumption) ?_
  (try simp only [Act.put,stpA,stpB,stpC])
  refine takeT 14 rfl (by assumption) ?_
  (try simp only [Act.put,stpA,stpB,stpC])
  refine takeT 15 rfl (by assumption) ?_
  (try simp only [Act.put,stpA,stpB,stpC])
  refine takeT 16 rfl (by assumption) ?_
  (try simp only [Act.put,stpA,stpB,stpC])
  refine takeT 17 rfl (by assumption) ?_
  (try simp only [Act.put,stpA,stpB,stpC])
  refine takeT 18 rfl (by assumption) ?_
  (try simp only [Act.put,stpA,stpB,stpC])
  refine wpAnyH_done (by kernel_rfl) ?_ _
  (try clear hHeld)
  (repeat clear ‹Up w _∧_›)
  go_upto_region 9 with fail
  refine (show ∀ W2:World,W2=_→Code.wp _ _ _ _ W2 from fun W2 hW2=>?_) _ rfl
  have U2:=Lib.hid (show Up w W2 by rw [hW2];exact (HU1.out.setCell (Nat.le_refl _) _).drew)
  have b0:W2.cell? ⟨w.heap.size,0,none⟩=some (.int .i64 v):=by rw [hW2];simp [go_sem,a_1_0]
  have b1:W2.cell? ⟨w.heap.size,1,none⟩=some (.int .i64 q):=by rw [hW2];simp [go_sem,a_1_1]
  have b2:W2.cell? ⟨w.heap.size,2,none⟩=some (.int .i64 c):=by rw [hW2];simp [go_sem,a_1_2]
  have b3:W2.cell? ⟨w.heap.size,3,none⟩=some (.int .i64 now):=by rw [hW2];simp [go_sem,a_1_3]
  have b4:W2.cell? ⟨w.heap.size,4,none⟩=some (.int .i64 (seq+1)):=by rw [hW2];simp [go_sem,a_1_4]
  have b5:W2.cell? ⟨w.heap.size,5,none⟩=some (.slice (some ⟨b,o,none⟩) n k):=by rw [hW2];simp [go_sem,a_1_5]
  have r0:W2.cell? ⟨w.heap.size+1,0,none⟩=some (.int .i64 0):=by rw [hW2];simp [go_sem,r_1_0]
  have r1:W2.cell? ⟨w.heap.size+1,1,none⟩=some (.int .i64 0):=by rw [hW2];simp [go_sem,r_1_1]
  have r2:W2.cell? ⟨w.heap.size+1,2,none⟩=some (.int .i64 0):=by rw [hW2];simp [go_sem,r_1_2]
  have r3:W2.cell? ⟨w.heap.size+1,3,none⟩=some (.int .i64 0):=by rw [hW2];simp [go_sem,r_1_3]
  have r4:W2.cell? ⟨w.heap.size+1,4,none⟩=some (.int .i64 0):=by rw [hW2];simp [go_sem,r_1_4]
  have r5:W2.cell? ⟨w.heap.size+1,5,none⟩=some (.slice none 0 0):=by rw [hW2];simp [go_sem,r_1_5]
  clear hW2 HU1
  (try clear KV KI)
  clear a_1_0 a_1_1 a_1_2 a_1_3 a_1_4 a_1_5 r_1_0 r_1_1 r_1_2 r_1_3 r_1_4 r_1_5 z0 z1 z2 z3 z4 z5 y0 y1 y2 y3 y4 y5
  go_wp2_with (go_at_call 34;(with_reducible refine (KE.out _ U2.out).mono ?_);rintro e w3 ⟨A3,k3,rfl,hk3,hnw,hu,hM⟩;have HM3:=Lib.hid hM;have hltW:=World.block_lt_of_cell? _ _ r0;have HNW:Hid (∀ b_ o_,A3=some ⟨b_,o_,none⟩→w.heap.size+1<b_):=Lib.hid (fun b_ o_ h_=>Nat.lt_of_lt_of_le hltW (hnw b_ o_ h_));clear hltW;have b0:=hu.keep _ _ _ b0;have b1:=hu.keep _ _ _ b1;have b2:=hu.keep _ _ _ b2;have b3:=hu.keep _ _ _ b3;have b4:=hu.keep _ _ _ b4;have b5:=hu.keep _ _ _ b5;have r0:=hu.keep _ _ _ r0;have r1:=hu.keep _ _ _ r1;have r2:=hu.keep _ _ _ r2;have r3:=hu.keep _ _ _ r3;have r4:=hu.keep _ _ _ r4;have r5:=hu.keep _ _ _ r5;have HX:Hid (Up w w3∧w3.cell? ⟨w.heap.size,0,none⟩=some (.int .i64 v)∧w3.cell? ⟨w.heap.size,1,none⟩=some (.int .i64 q)∧w3.cell? ⟨w.heap.size,2,none⟩=some (.int .i64 c)∧w3.cell? ⟨w.heap.size,3,none⟩=some (.int .i64 now)∧w3.cell? ⟨w.heap.size,4,none⟩=some (.int .i64 (seq+1))∧w3.cell? ⟨w.heap.size,5,none⟩=some (.slice (some ⟨b,o,none⟩) n k)∧w3.cell? ⟨(w.heap.size+1),0,none⟩=some (.int .i64 0)∧w3.cell? ⟨(w.heap.size+1),1,none⟩=some (.int .i64 0)∧w3.cell? ⟨(w.heap.size+1),2,none⟩=some (.int .i64 0)∧w3.cell? ⟨(w.heap.size+1),3,none⟩=some (.int .i64 0)∧w3.cell? ⟨(w.heap.size+1),4,none⟩=some (.int .i64 0)∧w3.cell? ⟨(w.heap.size+1),5,none⟩=some (.slice none 0 0)):=Lib.hid ⟨U2.out.trans hu,b0,b1,b2,b3,b4,b5,r0,r1,r2,r3,r4,r5⟩;clear hu hM hnw b0 b1 b2 b3 b4 b5 r0 r1 r2 r3 r4 r5)
  go_loopw [7,8] (fun t7 t8 wr=>∃ (i m kk:Nat) (B:Option Addr) (R:List Mrk),t7=.slice B m kk∧t8=.int .i64 i∧i≤m∧m≤kk∧m≤n+1∧Hid (SG cM wr B m R)∧Hid (R.take i ++ prL (clQ q) (m - i) (R.drop i)=Z)∧Hid (∀ b_ o_,B=some ⟨b_,o_,none⟩→w.heap.size+1<b_)∧Hid (Up w3 wr)) (fun t7 t8 _=>lnS t7 - (intOf t8).toNat)
  case atStart=>exact ⟨0,n+1,k3,A3,M3,rfl,rfl,Nat.zero_le _,hk3,Nat.le_refl _,HM3,Lib.hid (by rw [← HZ.out];rfl),HNW,Lib.hid (Up.refl _)⟩
  case round =>
    obtain ⟨wo,hwo⟩:∃ x,x=wr:=⟨_,rfl⟩
    subst hwo
    obtain ⟨i,m,kk,B,R,rfl,rfl,him,hmk,hmn,HR,HZr,HN,HW⟩:=hrel
    by_cases hi:i<m
    · obtain ⟨b,o,rfl,_⟩:=mrk_at HR.out mk0 hi
      have hRl:=Lib.hid HR.out.1
      have f30:(0:Int)≤i:=by omega
      have fi:(i:Int)<m:=by omega
      have HNO:Hid ((∀ p,i<p→p<m→clQ q (R.getD i mk0) (R.getD p mk0)=false)→R.take (i+1) ++ prL (clQ q) (m - (i+1)) (R.drop (i+1))=Z):=Lib.hid (fun h=>rprune_no hRl.out hi HZr.out h)
      have HYS:Hid (∀ j,i<j→j<m→clQ q (R.getD i mk0) (R.getD j mk0)=true→(∀ p,j<p→p<m→clQ q (R.getD i mk0) (R.getD p mk0)=false)→(R.take (i+1) ++ R.drop j).take (i+1) ++ prL (clQ q) (i+1+(m - j) - (i+1)) ((R.take (i+1) ++ R.drop j).drop (i+1))=Z):=Lib.hid (fun j h1 h2 h3 h4=>rprune_yes hRl.out h1 h2 HZr.out h3 h4)
      have HCI:=Lib.hid (fun W (h:Up wo W)=>mrk_prev (HR.out.up h) hi)
      have cg:=HW.out.keep _ _ _ HX.out.2.2.1
      generalize hMi:R.getD i mk0=Mi at *
      have hMi:=Lib.hid hMi
      obtain ⟨sq1,t1,nn1,s1,qq1,lo1,hi1⟩:=Mi
      simp only at HCI
      have w7_:IntKind.i64.wrap ((i:Int)+1)=(i:Int)+1:=by rw [IntKind.wrap_i64];omega
      clear HZr
      go_wp2_with fail
      go_loopw [9,10] (fun t9 t10 wr=>∃ j nx:Nat,t9=.int .i64 j∧t10=.int .i64 nx∧i≤j∧j<nx∧nx≤m∧Hid (i<j→clQ q ⟨sq1,t1,nn1,s1,qq1,lo1,hi1⟩ (R.getD j mk0)=true)∧Hid (∀ p,j<p→p<nx→clQ q ⟨sq1,t1,nn1,s1,qq1,lo1,hi1⟩ (R.getD p mk0)=false)∧Hid (Up wo wr)) (fun _ t _=>m - (intOf t).toNat)
      case atStart=>exact ⟨i,i+1,rfl,by go_num,Nat.le_refl _,by omega,by omega,Lib.hid (fun h=>absurd h (Nat.lt_irrefl _)),Lib.hid (fun p h1 h2=>absurd h1 (by omega)),Lib.hid (Up.refl _)⟩
      case round =>
        obtain ⟨j,nx,rfl,rfl,hij,hjn,hnm,HC,HF,HV⟩:=hrel
        have f31:(0:Int)≤nx:=by omega
        have f32:(0:Int)≤j:=by omega
        by_cases hx:nx<m
        · have fx:(nx:Int)<m:=by omega
          obtain ⟨x0,x1,x2,x3,x4,x5,x6⟩:=mrk_prev (HR.out.up HV.out) hx
          obtain ⟨d0,d1,d2,d3,d4,d5,d6⟩:=HCI.out _ HV.out
          generalize hMn:R.getD nx mk0=Mn at *
          have hMn:=Lib.hid hMn
          obtain ⟨sq,t,nn,s,qq,lo,hi⟩:=Mn
          simp only at x0 x1 x2 x3 x4 x5 x6
          have HSS:Hid (Up wo wr∧wr.cell? ⟨w.heap.size,1,none⟩=some (.int .i64 q)∧wr.cell? ⟨b,o+i * 7,none⟩=some (.int .i64 sq1)∧wr.cell? ⟨b,o+i * 7+1,none⟩=some (.int .i64 t1)∧wr.cell? ⟨b,o+i * 7+2,none⟩=some (.int .i64 nn1)∧wr.cell? ⟨b,o+i * 7+3,none⟩=some (.int .i64 s1)∧wr.cell? ⟨b,o+i * 7+4,none⟩=some (.int .i64 qq1)∧wr.cell? ⟨b,o+i * 7+5,none⟩=some (.int .i64 lo1)∧wr.cell? ⟨b,o+i * 7+6,none⟩=some (.int .i64 hi1)∧wr.cell? ⟨b,o+nx * 7,none⟩=some (.int .i64 sq)∧wr.cell? ⟨b,o+nx * 7+1,none⟩=some (.int .i64 t)∧wr.cell? ⟨b,o+nx * 7+2,none⟩=some (.int .i64 nn)∧wr.cell? ⟨b,o+nx * 7+3,none⟩=some (.int .i64 s)∧wr.cell? ⟨b,o+nx * 7+4,none⟩=some (.int .i64 qq)∧wr.cell? ⟨b,o+nx * 7+5,none⟩=some (.int .i64 lo)∧wr.cell? ⟨b,o+nx * 7+6,none⟩=some (.int .i64 hi)):=Lib.hid ⟨HV.out,HV.out.keep _ _ _ cg,d0,d1,d2,d3,d4,d5,d6,x0,x1,x2,x3,x4,x5,x6⟩
          clear d0 d1 d2 d3 d4 d5 d6 x0 x1 x2 x3 x4 x5 x6
          have K7:=Lib.hid (KC.out ⟨sq1,t1,nn1,s1,qq1,lo1,hi1⟩ ⟨sq,t,nn,s,qq,lo,hi⟩)
          simp only at K7
          cases hk:clQ q ⟨sq1,t1,nn1,s1,qq1,lo1,hi1⟩ ⟨sq,t,nn,s,qq,lo,hi⟩ with
          | false =>
            have HF2:Hid (∀ p,j<p→p<nx+1→clQ q ⟨sq1,t1,nn1,s1,qq1,lo1,hi1⟩ (R.getD p mk0)=false):=Lib.hid (fun p h1 h2=>by
              rcases Nat.lt_or_ge p nx with hp | hp
              · exact HF.out p h1 hp
              · obtain rfl:p=nx:=by omega
                rw [hMn.out];exact hk)
            rw [hk] at K7
            clear hk HF hMn HNO HYS HCI
            go_wp2_with fail
            refine wp_region_held_drew (S:=fun w'=>Up wo w'∧w'.cell? ⟨w.heap.size,1,none⟩=some (.int .i64 q)∧w'.cell? ⟨b,o+i * 7,none⟩=some (.int .i64 sq1)∧w'.cell? ⟨b,o+i * 7+1,none⟩=some (.int .i64 t1)∧w'.cell? ⟨b,o+i * 7+2,none⟩=some (.int .i64 nn1)∧w'.cell? ⟨b,o+i * 7+3,none⟩=some (.int .i64 s1)∧w'.cell? ⟨b,o+i * 7+4,none⟩=some (.int .i64 qq1)∧w'.cell? ⟨b,o+i * 7+5,none⟩=some (.int .i64 lo1)∧w'.cell? ⟨b,o+i * 7+6,none⟩=some (.int .i64 hi1)∧w'.cell? ⟨b,o+nx * 7,none⟩=some (.int .i64 sq)∧w'.cell? ⟨b,o+nx * 7+1,none⟩=some (.int .i64 t)∧w'.cell? ⟨b,o+nx * 7+2,none⟩=some (.int .i64 nn)∧w'.cell? ⟨b,o+nx * 7+3,none⟩=some (.int .i64 s)∧w'.cell? ⟨b,o+nx * 7+4,none⟩=some (.int .i64 qq)∧w'.cell? ⟨b,o+nx * 7+5,none⟩=some (.int .i64 lo)∧w'.cell? ⟨b,o+nx * 7+6,none⟩=some (.int .i64 hi)) (by kernel_rfl) ?hB70 (fun hHeld=>?_)
            case hB70=>(first | (with_reducible assumption) | (with_reducible exact keepL15 (Lib.hid (Up.refl _).drew) HSS.out) | (with_reducible exact HX4.out))
            refine takeT 0 rfl (by assumption) ?_
            (try simp only [Act.put,stpA,stpB,stpC])
            refine takeT 1 rfl (by assumption) ?_
            (try simp only [Act.put,stpA,stpB,stpC])
            refine takeT 2 rfl (by assumption) ?_
            (try simp only [Act.put,stpA,stpB,stpC])
            refine takeT 3 rfl (by assumption) ?_
            (try simp only [Act.put,stpA,stpB,stpC])
            refine takeT 4 rfl (by assumption) ?_
            (try simp only [Act.put,stpA,stpB,stpC])
            refine takeT 5 rfl (by assumption) ?_
            (try simp only [Act.put,stpA,stpB,stpC])
            refine takeT 6 rfl (by assumption) ?_
            (try simp only [Act.put,stpA,stpB,stpC])
            refine takeT 7 rfl (by assumption) ?_
            (try simp only [Act.put,stpA,stpB,stpC])
            refine takeT 8 rfl (by assumption) ?_
            (try simp only [Act.put,stpA,stpB,stpC])
            refine takeT 9 rfl (by assumption) ?_
            (try simp only [Act.put,stpA,stpB,stpC])
            refine wpAnyH_ready (rs:=[10]) (by kernel_rfl) (by simp) ?_
            refine AllReadyH.cons (o:=⟨_,_,_,_,_,_⟩) rfl (fun K hK=>?_) AllReadyH.nil
            go_simp
            (go_at_call 35;(with_reducible refine (K7.out _).mono ?_);rintro e w4 ⟨rfl,hu⟩;have HU4:=Lib.hid hu;have HX4:=Lib.hid (keepL15 HU4 hHeld);clear hu)
            (try go_wp2_with fail)
            refine hK.out _ _ ?hB81 (fun hHeld=>?_)
            case hB81=>(first | (with_reducible assumption) | (with_reducible exact keepL15 (Lib.hid (Up.refl _).drew) HSS.out) | (with_reducible exact HX4.out))
            clear hK K
            (try simp only [Act.put,stpA,stpB,stpC])
            refine wpAnyH_done (by kernel_rfl) ?_ _
            have UX:=Lib.hid hHeld.1
            (repeat clear ‹Up wo _∧_›)
            go_wp2_with fail
            go_roundw
            case rel=>exact ⟨j,nx+1,rfl,by go_num,hij,by omega,by omega,HC,HF2,UX⟩
            case measure=>simp [intOf];omega
          | true =>
            have HC2:Hid (i<nx→clQ q ⟨sq1,t1,nn1,s1,qq1,lo1,hi1⟩ (R.getD nx mk0)=true):=Lib.hid (fun _=>by rw [hMn.out];exact hk)
            rw [hk] at K7
            clear hk HF HC hMn HNO HYS HCI
            go_wp2_with fail
            refine wp_region_held_drew (S:=fun w'=>Up wo w'∧w'.cell? ⟨w.heap.size,1,none⟩=some (.int .i64 q)∧w'.cell? ⟨b,o+i * 7,none⟩=some (.int .i64 sq1)∧w'.cell? ⟨b,o+i * 7+1,none⟩=some (.int .i64 t1)∧w'.cell? ⟨b,o+i * 7+2,none⟩=some (.int .i64 nn1)∧w'.cell? ⟨b,o+i * 7+3,none⟩=some (.int .i64 s1)∧w'.cell? ⟨b,o+i * 7+4,none⟩=some (.int .i64 qq1)∧w'.cell? ⟨b,o+i * 7+5,none⟩=some (.int .i64 lo1)∧w'.cell? ⟨b,o+i * 7+6,none⟩=some (.int .i64 hi1)∧w'.cell? ⟨b,o+nx * 7,none⟩=some (.int .i64 sq)∧w'.cell? ⟨b,o+nx * 7+1,none⟩=some (.int .i64 t)∧w'.cell? ⟨b,o+nx * 7+2,none⟩=some (.int .i64 nn)∧w'.cell? ⟨b,o+nx * 7+3,none⟩=some (.int .i64 s)∧w'.cell? ⟨b,o+nx * 7+4,none⟩=some (.int .i64 qq)∧w'.cell? ⟨b,o+nx * 7+5,none⟩=some (.int .i64 lo)∧w'.cell? ⟨b,o+nx * 7+6,none⟩=some (.int .i64 hi)) (by kernel_rfl) ?hB82 (fun hHeld=>?_)
            case hB82=>(first | (with_reducible assumption) | (with_reducible exact keepL15 (Lib.hid (Up.refl _).drew) HSS.out) | (with_reducible exact HX4.out))
            refine takeT 0 rfl (by assumption) ?_
            (try simp only [Act.put,stpA,stpB,stpC])
            refine takeT 1 rfl (by assumption) ?_
            (try simp only [Act.put,stpA,stpB,stpC])
            refine takeT 2 rfl (by assumption) ?_
            (try simp only [Act.put,stpA,stpB,stpC])
            refine takeT 3 rfl (by assumption) ?_
            (try simp only [Act.put,stpA,stpB,stpC])
            refine takeT 4 rfl (by assumption) ?_
            (try simp only [Act.put,stpA,stpB,stpC])
            refine takeT 5 rfl (by assumption) ?_
            (try simp only [Act.put,stpA,stpB,stpC])
            refine takeT 6 rfl (by assumption) ?_
            (try simp only [Act.put,stpA,stpB,stpC])
            refine takeT 7 rfl (by assumption) ?_
            (try simp only [Act.put,stpA,stpB,stpC])
            refine takeT 8 rfl (by assumption) ?_
            (try simp only [Act.put,stpA,stpB,stpC])
            refine takeT 9 rfl (by assumption) ?_
            (try simp only [Act.put,stpA,stpB,stpC])
            refine wpAnyH_ready (rs:=[10]) (by kernel_rfl) (by simp) ?_
            refine AllReadyH.cons (o:=⟨_,_,_,_,_,_⟩) rfl (fun K hK=>?_) AllReadyH.nil
            go_simp
            (go_at_call 35;(with_reducible refine (K7.out _).mono ?_);rintro e w4 ⟨rfl,hu⟩;have HU4:=Lib.hid hu;have HX4:=Lib.hid (keepL15 HU4 hHeld);clear hu)
            (try go_wp2_with fail)
            refine hK.out _ _ ?hB93 (fun hHeld=>?_)
            case hB93=>(first | (with_reducible assumption) | (with_reducible exact keepL15 (Lib.hid (Up.refl _).drew) HSS.out) | (with_reducible exact HX4.out))
            clear hK K
            (try simp only [Act.put,stpA,stpB,stpC])
            refine wpAnyH_done (by kernel_rfl) ?_ _
            have UX:=Lib.hid hHeld.1
            (repeat clear ‹Up wo _∧_›)
            go_wp2_with fail
            go_roundw
            case rel=>exact ⟨nx,nx+1,rfl,by go_num,by omega,by omega,by omega,HC2,Lib.hid (fun p h1 h2=>absurd h1 (by omega)),UX⟩
            case measure=>simp [intOf];omega
        · obtain rfl:nx=m:=by omega
          have fx:decide ((nx:Int)<nx)=false:=decide_eq_false (by omega)
          by_cases hji:i<j
          · have fj:(i:Int)<j:=by omega
            have fjm:(j:Int)≤nx:=by omega
            have HZ2:=Lib.hid (HYS.out j hji (by omega) (HC.out hji) HF.out)
            have HR1:=Lib.hid (HR.out.up HV.out)
            have hrun1:=sliceToM_run b o nx kk i (by omega)
            have hrun2:=sliceFromM_run b o nx kk j (by omega) (by omega)
            have HWq:=Lib.hid (HW.out.trans HV.out)
            have hlq:=World.block_lt_of_cell? _ _ (HWq.out.keep _ _ _ HX.out.2.2.2.2.2.2.2.1)
            clear HYS HNO HCI HC HF cg
            go_wp2_with fail
            refine wp_region_held_drew (S:=fun w'=>Up wr w'∧True) (by kernel_rfl) ?hB94 (fun hHeld=>?_)
            case hB94=>exact ⟨(Up.refl _).drew,trivial⟩
            refine takeT 1 rfl (by assumption) ?_
            (try simp only [Act.put,stpA,stpB,stpC])
            refine takeT 2 rfl (by assumption) ?_
            (try simp only [Act.put,stpA,stpB,stpC])
            refine takeT 3 rfl (by assumption) ?_
            (try simp only [Act.put,stpA,stpB,stpC])
            refine takeT 4 rfl (by assumption) ?_
            (try simp only [Act.put,stpA,stpB,stpC])
            refine takeT 6 rfl (by assumption) ?_
            (try simp only [Act.put,stpA,stpB,stpC])
            refine takeT 7 rfl (by assumption) ?_
            (try simp only [Act.put,stpA,stpB,stpC])
            refine takeT 8 rfl (by assumption) ?_
            (try simp only [Act.put,stpA,stpB,stpC])
            refine wpAnyH_ready (rs:=[0]) (by kernel_rfl) (by simp) ?_
            refine AllReadyH.cons (o:=⟨_,_,_,_,_,_⟩) rfl (fun K hK=>?_) (AllReadyH.nil)
            go_simp
            refine hK.out _ _ ?hB102 (fun hHeld=>?_)
            case hB102=>exact ⟨((Up.refl _).drew).alloc _ _,trivial⟩
            clear hK K
            (try simp only [Act.put,stpA,stpB,stpC])
            obtain ⟨A6,k6,w6,hr6,hO6,hU6⟩:=appendM 22 wr.drew (wr.drew.alloc (.cells #[] 56)) (.slice (some ⟨wr.heap.size,0,none⟩) 0 0) 0 [] (OG.fresh (f:=cM) (e:=56) (s:=7) (w0:=wr.drew) (w:=wr.drew) (Nat.le_refl _) #[] rfl) ((Up.refl _).alloc _ _) (some ⟨b,o,none⟩) (i+1) kk (R.take (i+1)) ((HR1.out.first cM_len (by omega)).up ((Up.refl _).drew.alloc _ _)) (by omega)
            simp only [Nat.zero_add,List.nil_append] at hr6 hO6
            have HO6:=Lib.hid hO6
            have HU6:=Lib.hid ((Up.refl wr).drew.trans hU6)
            obtain ⟨A7,k7,w7,hr7,hO7,hU7⟩:=appendM 22 wr.drew w6 (.slice A6 (i+1) k6) (i+1) (R.take (i+1)) HO6.out hU6 (some ⟨b,o+j * 7,none⟩) (nx - j) (kk - j) (R.drop j) ((HR1.out.cutM (by omega)).up HU6.out) (by omega)
            have HO7:=Lib.hid hO7
            have HU7:=Lib.hid ((Up.refl wr).drew.trans hU7)
            clear hO6 hU6 hO7 hU7
            refine wpAnyH_ready (rs:=[5]) (by kernel_rfl) (by simp) ?_
            refine AllReadyH.cons (o:=⟨_,_,_,_,_,_⟩) rfl (fun K hK=>?_) (AllReadyH.nil)
            refine step_append_run rfl (.tmp 83) (.tmp 87) _ rfl (.slice (some ⟨wr.heap.size,0,none⟩) 0 0) (.slice (some ⟨b,o,none⟩) (i+1) kk) rfl rfl _ _ hr6 ?_
            refine hK.out _ _ ?hB103 (fun hHeld=>?_)
            case hB103=>exact ⟨HU6.out,trivial⟩
            clear hK K
            (try simp only [Act.put,stpA,stpB,stpC])
            refine wpAnyH_ready (rs:=[9]) (by kernel_rfl) (by simp) ?_
            refine AllReadyH.cons (o:=⟨_,_,_,_,_,_⟩) rfl (fun K hK=>?_) (AllReadyH.nil)
            refine step_append_run rfl (.tmp 88) (.tmp 91) _ rfl (.slice A6 (i+1) k6) (.slice (some ⟨b,o+j * 7,none⟩) (nx - j) (kk - j)) rfl rfl _ _ hr7 ?_
            refine hK.out _ _ ?hB104 (fun hHeld=>?_)
            case hB104=>exact ⟨HU7.out,trivial⟩
            clear hK K
            (try simp only [Act.put,stpA,stpB,stpC])
            refine takeT 10 rfl (by assumption) ?_
            (try simp only [Act.put,stpA,stpB,stpC])
            refine wpAnyH_done (by kernel_rfl) ?_ _
            clear hHeld
            go_wp2_with fail
            go_roundw
            case rel=>exact ⟨i+1,i+1+(nx - j),k7,A7,R.take (i+1) ++ R.drop j,rfl,by go_num,by omega,(OG.sg HO7.out).1,by omega,Lib.hid (OG.sg HO7.out).2,HZ2,Lib.hid (fun b_ o_ h_=>Nat.lt_of_lt_of_le hlq (OG.nw HO7.out b_ o_ h_)),Lib.hid (HWq.out.trans HU7.out)⟩
            case measure=>simp [lnS,intOf];omega
          · obtain rfl:j=i:=by omega
            have HZ2:=Lib.hid (HNO.out (fun p h1 h2=>HF.out p h1 h2))
            clear HYS HNO HCI HC HF cg
            go_wp2_with fail
            go_roundw
            case rel=>exact ⟨j+1,nx,kk,some ⟨b,o,none⟩,R,rfl,by go_num,by omega,hmk,hmn,Lib.hid (HR.out.up HV.out),HZ2,HN,Lib.hid (HW.out.trans HV.out)⟩
            case measure=>simp [lnS,intOf];omega
    · obtain rfl:i=m:=by omega
      have fi:decide ((i:Int)<i)=false:=decide_eq_false (by omega)
      have HRZ:Hid (R=Z):=Lib.hid (by
        have e:=HZr.out
        rw [Nat.sub_self,show R.drop i=[] from List.drop_eq_nil_of_le (by rw [HR.out.1];exact Nat.le_refl _),prL_nil,List.append_nil,List.take_of_length_le (by rw [HR.out.1];exact Nat.le_refl _)] at e
        exact e)
      obtain rfl:R=Z:=HRZ.out
      have UU:=HX.out.1.trans HW.out
      have c00:=HW.out.keep _ _ _ HX.out.2.1
      have c01:=HW.out.keep _ _ _ HX.out.2.2.1
      have c02:=HW.out.keep _ _ _ HX.out.2.2.2.1
      have c03:=HW.out.keep _ _ _ HX.out.2.2.2.2.1
      have c04:=HW.out.keep _ _ _ HX.out.2.2.2.2.2.1
      have c05:=HW.out.keep _ _ _ HX.out.2.2.2.2.2.2.1
      have c10:=HW.out.keep _ _ _ HX.out.2.2.2.2.2.2.2.1
      have c11:=HW.out.keep _ _ _ HX.out.2.2.2.2.2.2.2.2.1
      have c12:=HW.out.keep _ _ _ HX.out.2.2.2.2.2.2.2.2.2.1
      have c13:=HW.out.keep _ _ _ HX.out.2.2.2.2.2.2.2.2.2.2.1
      have c14:=HW.out.keep _ _ _ HX.out.2.2.2.2.2.2.2.2.2.2.2.1
      have c15:=HW.out.keep _ _ _ HX.out.2.2.2.2.2.2.2.2.2.2.2.2
      have z05:=UU.ownGe (g:=w.heap.size) (Nat.le_refl _) 5
      have z10:=UU.ownGe (g:=w.heap.size+1) (by omega) 0
      have z11:=UU.ownGe (g:=w.heap.size+1) (by omega) 1
      have z12:=UU.ownGe (g:=w.heap.size+1) (by omega) 2
      have z13:=UU.ownGe (g:=w.heap.size+1) (by omega) 3
      have z14:=UU.ownGe (g:=w.heap.size+1) (by omega) 4
      have z15:=UU.ownGe (g:=w.heap.size+1) (by omega) 5
      have UU:=Lib.hid UU
      have hlt:=World.block_lt_of_cell? _ _ c10
      have HRw:=HR
      clear HX HZr HRZ
      go_wp2_with fail
      refine bodyPost_ret (v:=.tuple #[.agg #[.int .i64 v,.int .i64 q,.int .i64 c,.int .i64 now,.int .i64 (seq+1),.slice B i kk],.int .i64 0]) (by simp [results,Tryz.results10,go_sem,c10,c11,c12,c13,c14,c15]) rfl ⟨B,i,kk,rfl,hmn,hmk,?_,?_⟩
      · exact (UU.out.setCell (Nat.le_refl _) _).setP6 (by omega)
      · exact (HRw.out.off (fun b_ o_ h_=>by have:=HN.out b_ o_ h_;omega) _).offP6 (fun b_ o_ h_=>by have:=HN.out b_ o_ h_;omega) _ _ _ _ _ _
set_option maxHeartbeats 4000000 in
set_option maxRecDepth 100000 in
theorem radd14_good_zero (v q c now seq d:Int) (n k:Nat) (A:Option Addr) (X:List Mrk) (hn:n≤50000) (hk:n≤k) (h0:¬ 0<n) (hv:stP v q c now seq X=true) (hd:valG 4 d) (hf:fuM c seq X=false) (w:World) (hS:SG cM w A n X) :
    Calls Tryz.prog 10 #[.agg #[.int .i64 v,.int .i64 q,.int .i64 c,.int .i64 now,.int .i64 seq,.slice A n k],.int .i64 d] w fun e w'=>∃ A' n' k',e=.returned (.tuple #[.agg #[.int .i64 v,.int .i64 q,.int .i64 c,.int .i64 now,.int .i64 (seq+1),.slice A' n' k'],.int .i64 0])∧n'≤n+1∧n'≤k'∧Up w w'∧SG cM w' A' n' (adS q seq now d X):=by
  have HL:=Lib.hid hS.1
  obtain ⟨hs2,hD,hAN⟩:=good14 hS.1 hv hd hf
  have KV:=Lib.hid (fun W (h:SG cM W A n X)=>rvalidate14_up v q c now seq n k A X hn W h)
  rw [stPE_yes hv] at KV
  have HS:=Lib.hid hS
  have KI:=Lib.hid (rvalue_any d)
  have w5_:IntKind.i64.wrap (seq+1)=seq+1:=by rw [IntKind.wrap_i64];omega
  have KE:=Lib.hid (fun W (h:Up w W)=>rinclude_up n k A X (seq+1) now d hn hD hd.1 hd.2.1 W (hS.up h))
  have HZ:Hid (prL (clQ q) (n+1) (inM (seq+1) now d X)=adS q seq now d X):=Lib.hid (by rw [← HL.out];rfl)
  rw [val4_iff] at hd
  rw [hd] at KI
  clear hD hAN hs2
  have KC:=Lib.hid (fun (P M:Mrk)=>rclose14_up P.sq P.t P.n P.s P.q P.lo P.hi M.sq M.t M.n M.s M.q M.lo M.hi q)
  generalize adS q seq now d X=Z at *
  generalize inM (seq+1) now d X=M3 at *
  have HSn:=Lib.hid hS
  clear hS hv hd
  have HF:Hid (seq ≠ 1099511627776):=Lib.hid (by
    unfold fuM at hf
    rw [HSn.out.1,Bool.or_eq_false_iff,Bool.and_eq_false_iff,decide_eq_false_iff_not,decide_eq_false_iff_not,decide_eq_false_iff_not] at hf
    exact hf.2)
  clear hf
  have t2:(seq == 1099511627776)=false:=beq_eq_false_iff_ne.2 HF.out
  have t1:decide ((0:Int)<n)=false:=decide_eq_false (by omega)
  have t1n:decide (0<n)=false:=decide_eq_false h0
  have t1p:(0<n)=False:=eq_false h0
  clear HF h0
  go_enter Tryz.func10,Tryz.ntmps10
  go_upto_region 6 with (first | (go_at_call 33;(with_reducible refine (KI.out _).mono ?_);rintro e w2 ⟨rfl,rfl⟩) | (go_at_call 14;(with_reducible refine (KV.out _ (HS.out.up (((Up.refl w).alloc _ _).alloc _ _))).mono ?_);rintro e w1 ⟨rfl,hu⟩;have hv:=(((Up.refl w).alloc #[.int .i64 v,.int .i64 q,.int .i64 c,.int .i64 now,.int .i64 seq,.slice A n k] 24).alloc #[.int .i64 0,.int .i64 0,.int .i64 0,.int .i64 0,.int .i64 0,.slice none 0 0] 24).trans hu;have HV1:=Lib.hid hv;have HU1:=Lib.hid ((Up.refl w).trans hv);have a_1_0:=hu.keep (w.heap.size) 0 (.int .i64 v) (by simp [go_sem]);have a_1_1:=hu.keep (w.heap.size) 1 (.int .i64 q) (by simp [go_sem]);have a_1_2:=hu.keep (w.heap.size) 2 (.int .i64 c) (by simp [go_sem]);have a_1_3:=hu.keep (w.heap.size) 3 (.int .i64 now) (by simp [go_sem]);have a_1_4:=hu.keep (w.heap.size) 4 (.int .i64 seq) (by simp [go_sem]);have a_1_5:=hu.keep (w.heap.size) 5 (.slice A n k) (by simp [go_sem]);have r_1_0:=hu.keep (w.heap.size+1) 0 (.int .i64 0) (by simp [go_sem]);have r_1_1:=hu.keep (w.heap.size+1) 1 (.int .i64 0) (by simp [go_sem]);have r_1_2:=hu.keep (w.heap.size+1) 2 (.int .i64 0) (by simp [go_sem]);have r_1_3:=hu.keep (w.heap.size+1) 3 (.int .i64 0) (by simp [go_sem]);have r_1_4:=hu.keep (w.heap.size+1) 4 (.int .i64 0) (by simp [go_sem]);have r_1_5:=hu.keep (w.heap.size+1) 5 (.slice none 0 0) (by simp [go_sem]);have la1:=World.block_lt_of_cell? _ _ a_1_0;have lr1:=World.block_lt_of_cell? _ _ r_1_0;have z0:=HU1.out.ownGe (g:=w.heap.size+1) (by omega) 0;have z1:=HU1.out.ownGe (g:=w.heap.size+1) (by omega) 1;have z2:=HU1.out.ownGe (g:=w.heap.size+1) (by omega) 2;have z3:=HU1.out.ownGe (g:=w.heap.size+1) (by omega) 3;have z4:=HU1.out.ownGe (g:=w.heap.size+1) (by omega) 4;have z5:=HU1.out.ownGe (g:=w.heap.size+1) (by omega) 5;have y0:=HU1.out.ownGe (g:=w.heap.size) (by omega) 0;have y1:=HU1.out.ownGe (g:=w.heap.size) (by omega) 1;have y2:=HU1.out.ownGe (g:=w.heap.size) (by omega) 2;have y3:=HU1.out.ownGe (g:=w.heap.size) (by omega) 3;have y4:=HU1.out.ownGe (g:=w.heap.size) (by omega) 4;have y5:=HU1.out.ownGe (g:=w.heap.size) (by omega) 5;clear hu hv ))
  have HSS:Hid (Up w w1∧w1.cell? ⟨w.heap.size,0,none⟩=some (.int .i64 v)∧w1.cell? ⟨w.heap.size,1,none⟩=some (.int .i64 q)∧w1.cell? ⟨w.heap.size,2,none⟩=some (.int .i64 c)∧w1.cell? ⟨w.heap.size,3,none⟩=some (.int .i64 now)∧w1.cell? ⟨w.heap.size,4,none⟩=some (.int .i64 seq)∧w1.cell? ⟨w.heap.size,5,none⟩=some (.slice A n k)∧w1.cell? ⟨(w.heap.size+1),0,none⟩=some (.int .i64 0)∧w1.cell? ⟨(w.heap.size+1),1,none⟩=some (.int .i64 0)∧w1.cell? ⟨(w.heap.size+1),2,none⟩=some (.int .i64 0)∧w1.cell? ⟨(w.heap.size+1),3,none⟩=some (.int .i64 0)∧w1.cell? ⟨(w.heap.size+1),4,none⟩=some (.int .i64 0)∧w1.cell? ⟨(w.heap.size+1),5,none⟩=some (.slice none 0 0)):=Lib.hid ⟨HU1.out,a_1_0,a_1_1,a_1_2,a_1_3,a_1_4,a_1_5,r_1_0,r_1_1,r_1_2,r_1_3,r_1_4,r_1_5⟩
  skip
  go_wp2_with fail
  refine wp_region_held_drew (S:=fun w'=>Up w w'∧w'.cell? ⟨w.heap.size,0,none⟩=some (.int .i64 v)∧w'.cell? ⟨w.heap.size,1,none⟩=some (.int .i64 q)∧w'.cell? ⟨w.heap.size,2,none⟩=some (.int .i64 c)∧w'.cell? ⟨w.heap.size,3,none⟩=some (.int .i64 now)∧w'.cell? ⟨w.heap.size,4,none⟩=some (.int .i64 seq)∧w'.cell? ⟨w.heap.size,5,none⟩=some (.slice A n k)∧w'.cell? ⟨(w.heap.size+1),0,none⟩=some (.int .i64 0)∧w'.cell? ⟨(w.heap.size+1),1,none⟩=some (.int .i64 0)∧w'.cell? ⟨(w.heap.size+1),2,none⟩=some (.int .i64 0)∧w'.cell? ⟨(w.heap.size+1),3,none⟩=some (.int .i64 0)∧w'.cell? ⟨(w.heap.size+1),4,none⟩=some (.int .i64 0)∧w'.cell? ⟨(w.heap.size+1),5,none⟩=some (.slice none 0 0)) (by kernel_rfl) ?hB106 (fun hHeld=>?_)
  case hB106=>(first | (with_reducible assumption) | (with_reducible exact keepL12 (Lib.hid (Up.refl _).drew) HSS.out))
  refine takeT 0 rfl (by assumption) ?_
  (try simp only [Act.put,stpA,stpB,stpC])
  refine takeT 1 rfl (by assumption) ?_
  (try simp only [Act.put,stpA,stpB,stpC])
  refine takeT 2 rfl (by assumption) ?_
  (try simp only [Act.put,stpA,stpB,stpC])
  refine takeT 3 rfl (by assumption) ?_
  (try simp only [Act.put,stpA,stpB,stpC])
  refine takeT 4 rfl (by assumption) ?_
  (try simp only [Act.put,stpA,stpB,stpC])
  refine takeU 5 rfl (by assumption) ?_
  (try simp only [Act.put,stpA,stpB,stpC])
  refine takeU 6 rfl (by assumption) ?_
  (try simp only [Act.put,stpA,stpB,stpC])
  refine takeU 7 rfl (by assumption) ?_
  (try simp only [Act.put,stpA,stpB,stpC])
  refine takeU 8 rfl (by assumption) ?_
  (try simp only [Act.put,stpA,stpB,stpC])
  refine takeU 9 rfl (by assumption) ?_
  (try simp only [Act.put,stpA,stpB,stpC])
  refine takeU 10 rfl (by assumption) ?_
  (try simp only [Act.put,stpA,stpB,stpC])
  refine takeU 11 rfl (by assumption) ?_
  (try simp only [Act.put,stpA,stpB,stpC])
  refine takeU 12 rfl (by assumption) ?_
  (try simp only [Act.put,stpA,stpB,stpC])
  refine takeT 13 rfl (by assumption) ?_
  (try simp only [Act.put,stpA,stpB,stpC])
  refine takeT 14 rfl (by assumption) ?_
  (try simp only [Act.put,stpA,stpB,stpC])
  refine takeT 15 rfl (by assumption) ?_
  (try simp only [Act.put,stpA,stpB,stpC])
  refine takeT 16 rfl (by assumption) ?_
  (try simp only [Act.put,stpA,stpB,stpC])
  refine takeT 17 rfl (by assumption) ?_
  (try simp only [Act.put,stpA,stpB,stpC])
  refine takeT 18 rfl (by assumption) ?_
  (try simp only [Act.put,stpA,stpB,stpC])
  refine wpAnyH_done (by kernel_rfl) ?_ _
  (try clear hHeld)
  (repeat clear ‹Up w _∧_›)
  go_upto_region 9 with fail
  refine (show ∀ W2:World,W2=_→Code.wp _ _ _ _ W2 from fun W2 hW2=>?_) _ rfl
  have U2:=Lib.hid (show Up w W2 by rw [hW2];exact (HU1.out.setCell (Nat.le_refl _) _).drew)
  have b0:W2.cell? ⟨w.heap.size,0,none⟩=some (.int .i64 v):=by rw [hW2];simp [go_sem,a_1_0]
  have b1:W2.cell? ⟨w.heap.size,1,none⟩=some (.int .i64 q):=by rw [hW2];simp [go_sem,a_1_1]
  have b2:W2.cell? ⟨w.heap.size,2,none⟩=some (.int .i64 c):=by rw [hW2];simp [go_sem,a_1_2]
  have b3:W2.cell? ⟨w.heap.size,3,none⟩=some (.int .i64 now):=by rw [hW2];simp [go_sem,a_1_3]
  have b4:W2.cell? ⟨w.heap.size,4,none⟩=some (.int .i64 (seq+1)):=by rw [hW2];simp [go_sem,a_1_4]
  have b5:W2.cell? ⟨w.heap.size,5,none⟩=some (.slice A n k):=by rw [hW2];simp [go_sem,a_1_5]
  have r0:W2.cell? ⟨w.heap.size+1,0,none⟩=some (.int .i64 0):=by rw [hW2];simp [go_sem,r_1_0]
  have r1:W2.cell? ⟨w.heap.size+1,1,none⟩=some (.int .i64 0):=by rw [hW2];simp [go_sem,r_1_1]
  have r2:W2.cell? ⟨w.heap.size+1,2,none⟩=some (.int .i64 0):=by rw [hW2];simp [go_sem,r_1_2]
  have r3:W2.cell? ⟨w.heap.size+1,3,none⟩=some (.int .i64 0):=by rw [hW2];simp [go_sem,r_1_3]
  have r4:W2.cell? ⟨w.heap.size+1,4,none⟩=some (.int .i64 0):=by rw [hW2];simp [go_sem,r_1_4]
  have r5:W2.cell? ⟨w.heap.size+1,5,none⟩=some (.slice none 0 0):=by rw [hW2];simp [go_sem,r_1_5]
  clear hW2 HU1
  (try clear KV KI)
  clear a_1_0 a_1_1 a_1_2 a_1_3 a_1_4 a_1_5 r_1_0 r_1_1 r_1_2 r_1_3 r_1_4 r_1_5 z0 z1 z2 z3 z4 z5 y0 y1 y2 y3 y4 y5
  go_wp2_with (go_at_call 34;(with_reducible refine (KE.out _ U2.out).mono ?_);rintro e w3 ⟨A3,k3,rfl,hk3,hnw,hu,hM⟩;have HM3:=Lib.hid hM;have hltW:=World.block_lt_of_cell? _ _ r0;have HNW:Hid (∀ b_ o_,A3=some ⟨b_,o_,none⟩→w.heap.size+1<b_):=Lib.hid (fun b_ o_ h_=>Nat.lt_of_lt_of_le hltW (hnw b_ o_ h_));clear hltW;have b0:=hu.keep _ _ _ b0;have b1:=hu.keep _ _ _ b1;have b2:=hu.keep _ _ _ b2;have b3:=hu.keep _ _ _ b3;have b4:=hu.keep _ _ _ b4;have b5:=hu.keep _ _ _ b5;have r0:=hu.keep _ _ _ r0;have r1:=hu.keep _ _ _ r1;have r2:=hu.keep _ _ _ r2;have r3:=hu.keep _ _ _ r3;have r4:=hu.keep _ _ _ r4;have r5:=hu.keep _ _ _ r5;have HX:Hid (Up w w3∧w3.cell? ⟨w.heap.size,0,none⟩=some (.int .i64 v)∧w3.cell? ⟨w.heap.size,1,none⟩=some (.int .i64 q)∧w3.cell? ⟨w.heap.size,2,none⟩=some (.int .i64 c)∧w3.cell? ⟨w.heap.size,3,none⟩=some (.int .i64 now)∧w3.cell? ⟨w.heap.size,4,none⟩=some (.int .i64 (seq+1))∧w3.cell? ⟨w.heap.size,5,none⟩=some (.slice A n k)∧w3.cell? ⟨(w.heap.size+1),0,none⟩=some (.int .i64 0)∧w3.cell? ⟨(w.heap.size+1),1,none⟩=some (.int .i64 0)∧w3.cell? ⟨(w.heap.size+1),2,none⟩=some (.int .i64 0)∧w3.cell? ⟨(w.heap.size+1),3,none⟩=some (.int .i64 0)∧w3.cell? ⟨(w.heap.size+1),4,none⟩=some (.int .i64 0)∧w3.cell? ⟨(w.heap.size+1),5,none⟩=some (.slice none 0 0)):=Lib.hid ⟨U2.out.trans hu,b0,b1,b2,b3,b4,b5,r0,r1,r2,r3,r4,r5⟩;clear hu hM hnw b0 b1 b2 b3 b4 b5 r0 r1 r2 r3 r4 r5)
  go_loopw [7,8] (fun t7 t8 wr=>∃ (i m kk:Nat) (B:Option Addr) (R:List Mrk),t7=.slice B m kk∧t8=.int .i64 i∧i≤m∧m≤kk∧m≤n+1∧Hid (SG cM wr B m R)∧Hid (R.take i ++ prL (clQ q) (m - i) (R.drop i)=Z)∧Hid (∀ b_ o_,B=some ⟨b_,o_,none⟩→w.heap.size+1<b_)∧Hid (Up w3 wr)) (fun t7 t8 _=>lnS t7 - (intOf t8).toNat)
  case atStart=>exact ⟨0,n+1,k3,A3,M3,rfl,rfl,Nat.zero_le _,hk3,Nat.le_refl _,HM3,Lib.hid (by rw [← HZ.out];rfl),HNW,Lib.hid (Up.refl _)⟩
  case round =>
    obtain ⟨wo,hwo⟩:∃ x,x=wr:=⟨_,rfl⟩
    subst hwo
    obtain ⟨i,m,kk,B,R,rfl,rfl,him,hmk,hmn,HR,HZr,HN,HW⟩:=hrel
    by_cases hi:i<m
    · obtain ⟨b,o,rfl,_⟩:=mrk_at HR.out mk0 hi
      have hRl:=Lib.hid HR.out.1
      have f30:(0:Int)≤i:=by omega
      have fi:(i:Int)<m:=by omega
      have HNO:Hid ((∀ p,i<p→p<m→clQ q (R.getD i mk0) (R.getD p mk0)=false)→R.take (i+1) ++ prL (clQ q) (m - (i+1)) (R.drop (i+1))=Z):=Lib.hid (fun h=>rprune_no hRl.out hi HZr.out h)
      have HYS:Hid (∀ j,i<j→j<m→clQ q (R.getD i mk0) (R.getD j mk0)=true→(∀ p,j<p→p<m→clQ q (R.getD i mk0) (R.getD p mk0)=false)→(R.take (i+1) ++ R.drop j).take (i+1) ++ prL (clQ q) (i+1+(m - j) - (i+1)) ((R.take (i+1) ++ R.drop j).drop (i+1))=Z):=Lib.hid (fun j h1 h2 h3 h4=>rprune_yes hRl.out h1 h2 HZr.out h3 h4)
      have HCI:=Lib.hid (fun W (h:Up wo W)=>mrk_prev (HR.out.up h) hi)
      have cg:=HW.out.keep _ _ _ HX.out.2.2.1
      generalize hMi:R.getD i mk0=Mi at *
      have hMi:=Lib.hid hMi
      obtain ⟨sq1,t1,nn1,s1,qq1,lo1,hi1⟩:=Mi
      simp only at HCI
      have w7_:IntKind.i64.wrap ((i:Int)+1)=(i:Int)+1:=by rw [IntKind.wrap_i64];omega
      clear HZr
      go_wp2_with fail
      go_loopw [9,10] (fun t9 t10 wr=>∃ j nx:Nat,t9=.int .i64 j∧t10=.int .i64 nx∧i≤j∧j<nx∧nx≤m∧Hid (i<j→clQ q ⟨sq1,t1,nn1,s1,qq1,lo1,hi1⟩ (R.getD j mk0)=true)∧Hid (∀ p,j<p→p<nx→clQ q ⟨sq1,t1,nn1,s1,qq1,lo1,hi1⟩ (R.getD p mk0)=false)∧Hid (Up wo wr)) (fun _ t _=>m - (intOf t).toNat)
      case atStart=>exact ⟨i,i+1,rfl,by go_num,Nat.le_refl _,by omega,by omega,Lib.hid (fun h=>absurd h (Nat.lt_irrefl _)),Lib.hid (fun p h1 h2=>absurd h1 (by omega)),Lib.hid (Up.refl _)⟩
      case round =>
        obtain ⟨j,nx,rfl,rfl,hij,hjn,hnm,HC,HF,HV⟩:=hrel
        have f31:(0:Int)≤nx:=by omega
        have f32:(0:Int)≤j:=by omega
        by_cases hx:nx<m
        · have fx:(nx:Int)<m:=by omega
          obtain ⟨x0,x1,x2,x3,x4,x5,x6⟩:=mrk_prev (HR.out.up HV.out) hx
          obtain ⟨d0,d1,d2,d3,d4,d5,d6⟩:=HCI.out _ HV.out
          generalize hMn:R.getD nx mk0=Mn at *
          have hMn:=Lib.hid hMn
          obtain ⟨sq,t,nn,s,qq,lo,hi⟩:=Mn
          simp only at x0 x1 x2 x3 x4 x5 x6
          have HSS:Hid (Up wo wr∧wr.cell? ⟨w.heap.size,1,none⟩=some (.int .i64 q)∧wr.cell? ⟨b,o+i * 7,none⟩=some (.int .i64 sq1)∧wr.cell? ⟨b,o+i * 7+1,none⟩=some (.int .i64 t1)∧wr.cell? ⟨b,o+i * 7+2,none⟩=some (.int .i64 nn1)∧wr.cell? ⟨b,o+i * 7+3,none⟩=some (.int .i64 s1)∧wr.cell? ⟨b,o+i * 7+4,none⟩=some (.int .i64 qq1)∧wr.cell? ⟨b,o+i * 7+5,none⟩=some (.int .i64 lo1)∧wr.cell? ⟨b,o+i * 7+6,none⟩=some (.int .i64 hi1)∧wr.cell? ⟨b,o+nx * 7,none⟩=some (.int .i64 sq)∧wr.cell? ⟨b,o+nx * 7+1,none⟩=some (.int .i64 t)∧wr.cell? ⟨b,o+nx * 7+2,none⟩=some (.int .i64 nn)∧wr.cell? ⟨b,o+nx * 7+3,none⟩=some (.int .i64 s)∧wr.cell? ⟨b,o+nx * 7+4,none⟩=some (.int .i64 qq)∧wr.cell? ⟨b,o+nx * 7+5,none⟩=some (.int .i64 lo)∧wr.cell? ⟨b,o+nx * 7+6,none⟩=some (.int .i64 hi)):=Lib.hid ⟨HV.out,HV.out.keep _ _ _ cg,d0,d1,d2,d3,d4,d5,d6,x0,x1,x2,x3,x4,x5,x6⟩
          clear d0 d1 d2 d3 d4 d5 d6 x0 x1 x2 x3 x4 x5 x6
          have K7:=Lib.hid (KC.out ⟨sq1,t1,nn1,s1,qq1,lo1,hi1⟩ ⟨sq,t,nn,s,qq,lo,hi⟩)
          simp only at K7
          cases hk:clQ q ⟨sq1,t1,nn1,s1,qq1,lo1,hi1⟩ ⟨sq,t,nn,s,qq,lo,hi⟩ with
          | false =>
            have HF2:Hid (∀ p,j<p→p<nx+1→clQ q ⟨sq1,t1,nn1,s1,qq1,lo1,hi1⟩ (R.getD p mk0)=false):=Lib.hid (fun p h1 h2=>by
              rcases Nat.lt_or_ge p nx with hp | hp
              · exact HF.out p h1 hp
              · obtain rfl:p=nx:=by omega
                rw [hMn.out];exact hk)
            rw [hk] at K7
            clear hk HF hMn HNO HYS HCI
            go_wp2_with fail
            refine wp_region_held_drew (S:=fun w'=>Up wo w'∧w'.cell? ⟨w.heap.size,1,none⟩=some (.int .i64 q)∧w'.cell? ⟨b,o+i * 7,none⟩=some (.int .i64 sq1)∧w'.cell? ⟨b,o+i * 7+1,none⟩=some (.int .i64 t1)∧w'.cell? ⟨b,o+i * 7+2,none⟩=some (.int .i64 nn1)∧w'.cell? ⟨b,o+i * 7+3,none⟩=some (.int .i64 s1)∧w'.cell? ⟨b,o+i * 7+4,none⟩=some (.int .i64 qq1)∧w'.cell? ⟨b,o+i * 7+5,none⟩=some (.int .i64 lo1)∧w'.cell? ⟨b,o+i * 7+6,none⟩=some (.int .i64 hi1)∧w'.cell? ⟨b,o+nx * 7,none⟩=some (.int .i64 sq)∧w'.cell? ⟨b,o+nx * 7+1,none⟩=some (.int .i64 t)∧w'.cell? ⟨b,o+nx * 7+2,none⟩=some (.int .i64 nn)∧w'.cell? ⟨b,o+nx * 7+3,none⟩=some (.int .i64 s)∧w'.cell? ⟨b,o+nx * 7+4,none⟩=some (.int .i64 qq)∧w'.cell? ⟨b,o+nx * 7+5,none⟩=some (.int .i64 lo)∧w'.cell? ⟨b,o+nx * 7+6,none⟩=some (.int .i64 hi)) (by kernel_rfl) ?hB118 (fun hHeld=>?_)
            case hB118=>(first | (with_reducible assumption) | (with_reducible exact keepL15 (Lib.hid (Up.refl _).drew) HSS.out) | (with_reducible exact HX4.out))
            refine takeT 0 rfl (by assumption) ?_
            (try simp only [Act.put,stpA,stpB,stpC])
            refine takeT 1 rfl (by assumption) ?_
            (try simp only [Act.put,stpA,stpB,stpC])
            refine takeT 2 rfl (by assumption) ?_
            (try simp only [Act.put,stpA,stpB,stpC])
            refine takeT 3 rfl (by assumption) ?_
            (try simp only [Act.put,stpA,stpB,stpC])
            refine takeT 4 rfl (by assumption) ?_
            (try simp only [Act.put,stpA,stpB,stpC])
            refine takeT 5 rfl (by assumption) ?_
            (try simp only [Act.put,stpA,stpB,stpC])
            refine takeT 6 rfl (by assumption) ?_
            (try simp only [Act.put,stpA,stpB,stpC])
            refine takeT 7 rfl (by assumption) ?_
            (try simp only [Act.put,stpA,stpB,stpC])
            refine takeT 8 rfl (by assumption) ?_
            (try simp only [Act.put,stpA,stpB,stpC])
            refine takeT 9 rfl (by assumption) ?_
            (try simp only [Act.put,stpA,stpB,stpC])
            refine wpAnyH_ready (rs:=[10]) (by kernel_rfl) (by simp) ?_
            refine AllReadyH.cons (o:=⟨_,_,_,_,_,_⟩) rfl (fun K hK=>?_) AllReadyH.nil
            go_simp
            (go_at_call 35;(with_reducible refine (K7.out _).mono ?_);rintro e w4 ⟨rfl,hu⟩;have HU4:=Lib.hid hu;have HX4:=Lib.hid (keepL15 HU4 hHeld);clear hu)
            (try go_wp2_with fail)
            refine hK.out _ _ ?hB129 (fun hHeld=>?_)
            case hB129=>(first | (with_reducible assumption) | (with_reducible exact keepL15 (Lib.hid (Up.refl _).drew) HSS.out) | (with_reducible exact HX4.out))
            clear hK K
            (try simp only [Act.put,stpA,stpB,stpC])
            refine wpAnyH_done (by kernel_rfl) ?_ _
            have UX:=Lib.hid hHeld.1
            (repeat clear ‹Up wo _∧_›)
            go_wp2_with fail
            go_roundw
            case rel=>exact ⟨j,nx+1,rfl,by go_num,hij,by omega,by omega,HC,HF2,UX⟩
            case measure=>simp [intOf];omega
          | true =>
            have HC2:Hid (i<nx→clQ q ⟨sq1,t1,nn1,s1,qq1,lo1,hi1⟩ (R.getD nx mk0)=true):=Lib.hid (fun _=>by rw [hMn.out];exact hk)
            rw [hk] at K7
            clear hk HF HC hMn HNO HYS HCI
            go_wp2_with fail
            refine wp_region_held_drew (S:=fun w'=>Up wo w'∧w'.cell? ⟨w.heap.size,1,none⟩=some (.int .i64 q)∧w'.cell? ⟨b,o+i * 7,none⟩=some (.int .i64 sq1)∧w'.cell? ⟨b,o+i * 7+1,none⟩=some (.int .i64 t1)∧w'.cell? ⟨b,o+i * 7+2,none⟩=some (.int .i64 nn1)∧w'.cell? ⟨b,o+i * 7+3,none⟩=some (.int .i64 s1)∧w'.cell? ⟨b,o+i * 7+4,none⟩=some (.int .i64 qq1)∧w'.cell? ⟨b,o+i * 7+5,none⟩=some (.int .i64 lo1)∧w'.cell? ⟨b,o+i * 7+6,none⟩=some (.int .i64 hi1)∧w'.cell? ⟨b,o+nx * 7,none⟩=some (.int .i64 sq)∧w'.cell? ⟨b,o+nx * 7+1,none⟩=some (.int .i64 t)∧w'.cell? ⟨b,o+nx * 7+2,none⟩=some (.int .i64 nn)∧w'.cell? ⟨b,o+nx * 7+3,none⟩=some (.int .i64 s)∧w'.cell? ⟨b,o+nx * 7+4,none⟩=some (.int .i64 qq)∧w'.cell? ⟨b,o+nx * 7+5,none⟩=some (.int .i64 lo)∧w'.cell? ⟨b,o+nx * 7+6,none⟩=some (.int .i64 hi)) (by kernel_rfl) ?hB130 (fun hHeld=>?_)
            case hB130=>(first | (with_reducible assumption) | (with_reducible exact keepL15 (Lib.hid (Up.refl _).drew) HSS.out) | (with_reducible exact HX4.out))
            refine takeT 0 rfl (by assumption) ?_
            (try simp only [Act.put,stpA,stpB,stpC])
            refine takeT 1 rfl (by assumption) ?_
            (try simp only [Act.put,stpA,stpB,stpC])
            refine takeT 2 rfl (by assumption) ?_
            (try simp only [Act.put,stpA,stpB,stpC])
            refine takeT 3 rfl (by assumption) ?_
            (try simp only [Act.put,stpA,stpB,stpC])
            refine takeT 4 rfl (by assumption) ?_
            (try simp only [Act.put,stpA,stpB,stpC])
            refine takeT 5 rfl (by assumption) ?_
            (try simp only [Act.put,stpA,stpB,stpC])
            refine takeT 6 rfl (by assumption) ?_
            (try simp only [Act.put,stpA,stpB,stpC])
            refine takeT 7 rfl (by assumption) ?_
            (try simp only [Act.put,stpA,stpB,stpC])
            refine takeT 8 rfl (by assumption) ?_
            (try simp only [Act.put,stpA,stpB,stpC])
            refine takeT 9 rfl (by assumption) ?_
            (try simp only [Act.put,stpA,stpB,stpC])
            refine wpAnyH_ready (rs:=[10]) (by kernel_rfl) (by simp) ?_
            refine AllReadyH.cons (o:=⟨_,_,_,_,_,_⟩) rfl (fun K hK=>?_) AllReadyH.nil
            go_simp
            (go_at_call 35;(with_reducible refine (K7.out _).mono ?_);rintro e w4 ⟨rfl,hu⟩;have HU4:=Lib.hid hu;have HX4:=Lib.hid (keepL15 HU4 hHeld);clear hu)
            (try go_wp2_with fail)
            refine hK.out _ _ ?hB141 (fun hHeld=>?_)
            case hB141=>(first | (with_reducible assumption) | (with_reducible exact keepL15 (Lib.hid (Up.refl _).drew) HSS.out) | (with_reducible exact HX4.out))
            clear hK K
            (try simp only [Act.put,stpA,stpB,stpC])
            refine wpAnyH_done (by kernel_rfl) ?_ _
            have UX:=Lib.hid hHeld.1
            (repeat clear ‹Up wo _∧_›)
            go_wp2_with fail
            go_roundw
            case rel=>exact ⟨nx,nx+1,rfl,by go_num,by omega,by omega,by omega,HC2,Lib.hid (fun p h1 h2=>absurd h1 (by omega)),UX⟩
            case measure=>simp [intOf];omega
        · obtain rfl:nx=m:=by omega
          have fx:decide ((nx:Int)<nx)=false:=decide_eq_false (by omega)
          by_cases hji:i<j
          · have fj:(i:Int)<j:=by omega
            have fjm:(j:Int)≤nx:=by omega
            have HZ2:=Lib.hid (HYS.out j hji (by omega) (HC.out hji) HF.out)
            have HR1:=Lib.hid (HR.out.up HV.out)
            have hrun1:=sliceToM_run b o nx kk i (by omega)
            have hrun2:=sliceFromM_run b o nx kk j (by omega) (by omega)
            have HWq:=Lib.hid (HW.out.trans HV.out)
            have hlq:=World.block_lt_of_cell? _ _ (HWq.out.keep _ _ _ HX.out.2.2.2.2.2.2.2.1)
            clear HYS HNO HCI HC HF cg
            go_wp2_with fail
            refine wp_region_held_drew (S:=fun w'=>Up wr w'∧True) (by kernel_rfl) ?hB142 (fun hHeld=>?_)
            case hB142=>exact ⟨(Up.refl _).drew,trivial⟩
            refine takeT 1 rfl (by assumption) ?_
            (try simp only [Act.put,stpA,stpB,stpC])
            refine takeT 2 rfl (by assumption) ?_
            (try simp only [Act.put,stpA,stpB,stpC])
            refine takeT 3 rfl (by assumption) ?_
            (try simp only [Act.put,stpA,stpB,stpC])
            refine takeT 4 rfl (by assumption) ?_
            (try simp only [Act.put,stpA,stpB,stpC])
            refine takeT 6 rfl (by assumption) ?_
            (try simp only [Act.put,stpA,stpB,stpC])
            refine takeT 7 rfl (by assumption) ?_
            (try simp only [Act.put,stpA,stpB,stpC])
            refine takeT 8 rfl (by assumption) ?_
            (try simp only [Act.put,stpA,stpB,stpC])
            refine wpAnyH_ready (rs:=[0]) (by kernel_rfl) (by simp) ?_
            refine AllReadyH.cons (o:=⟨_,_,_,_,_,_⟩) rfl (fun K hK=>?_) (AllReadyH.nil)
            go_simp
            refine hK.out _ _ ?hB150 (fun hHeld=>?_)
            case hB150=>exact ⟨((Up.refl _).drew).alloc _ _,trivial⟩
            clear hK K
            (try simp only [Act.put,stpA,stpB,stpC])
            obtain ⟨A6,k6,w6,hr6,hO6,hU6⟩:=appendM 22 wr.drew (wr.drew.alloc (.cells #[] 56)) (.slice (some ⟨wr.heap.size,0,none⟩) 0 0) 0 [] (OG.fresh (f:=cM) (e:=56) (s:=7) (w0:=wr.drew) (w:=wr.drew) (Nat.le_refl _) #[] rfl) ((Up.refl _).alloc _ _) (some ⟨b,o,none⟩) (i+1) kk (R.take (i+1)) ((HR1.out.first cM_len (by omega)).up ((Up.refl _).drew.alloc _ _)) (by omega)
            simp only [Nat.zero_add,List.nil_append] at hr6 hO6
            have HO6:=Lib.hid hO6
            have HU6:=Lib.hid ((Up.refl wr).drew.trans hU6)
            obtain ⟨A7,k7,w7,hr7,hO7,hU7⟩:=appendM 22 wr.drew w6 (.slice A6 (i+1) k6) (i+1) (R.take (i+1)) HO6.out hU6 (some ⟨b,o+j * 7,none⟩) (nx - j) (kk - j) (R.drop j) ((HR1.out.cutM (by omega)).up HU6.out) (by omega)
            have HO7:=Lib.hid hO7
            have HU7:=Lib.hid ((Up.refl wr).drew.trans hU7)
            clear hO6 hU6 hO7 hU7
            refine wpAnyH_ready (rs:=[5]) (by kernel_rfl) (by simp) ?_
            refine AllReadyH.cons (o:=⟨_,_,_,_,_,_⟩) rfl (fun K hK=>?_) (AllReadyH.nil)
            refine step_append_run rfl (.tmp 83) (.tmp 87) _ rfl (.slice (some ⟨wr.heap.size,0,none⟩) 0 0) (.slice (some ⟨b,o,none⟩) (i+1) kk) rfl rfl _ _ hr6 ?_
            refine hK.out _ _ ?hB151 (fun hHeld=>?_)
            case hB151=>exact ⟨HU6.out,trivial⟩
            clear hK K
            (try simp only [Act.put,stpA,stpB,stpC])
            refine wpAnyH_ready (rs:=[9]) (by kernel_rfl) (by simp) ?_
            refine AllReadyH.cons (o:=⟨_,_,_,_,_,_⟩) rfl (fun K hK=>?_) (AllReadyH.nil)
            refine step_append_run rfl (.tmp 88) (.tmp 91) _ rfl (.slice A6 (i+1) k6) (.slice (some ⟨b,o+j * 7,none⟩) (nx - j) (kk - j)) rfl rfl _ _ hr7 ?_
            refine hK.out _ _ ?hB152 (fun hHeld=>?_)
            case hB152=>exact ⟨HU7.out,trivial⟩
            clear hK K
            (try simp only [Act.put,stpA,stpB,stpC])
            refine takeT 10 rfl (by assumption) ?_
            (try simp only [Act.put,stpA,stpB,stpC])
            refine wpAnyH_done (by kernel_rfl) ?_ _
            clear hHeld
            go_wp2_with fail
            go_roundw
            case rel=>exact ⟨i+1,i+1+(nx - j),k7,A7,R.take (i+1) ++ R.drop j,rfl,by go_num,by omega,(OG.sg HO7.out).1,by omega,Lib.hid (OG.sg HO7.out).2,HZ2,Lib.hid (fun b_ o_ h_=>Nat.lt_of_lt_of_le hlq (OG.nw HO7.out b_ o_ h_)),Lib.hid (HWq.out.trans HU7.out)⟩
            case measure=>simp [lnS,intOf];omega
          · obtain rfl:j=i:=by omega
            have HZ2:=Lib.hid (HNO.out (fun p h1 h2=>HF.out p h1 h2))
            clear HYS HNO HCI HC HF cg
            go_wp2_with fail
            go_roundw
            case rel=>exact ⟨j+1,nx,kk,some ⟨b,o,none⟩,R,rfl,by go_num,by omega,hmk,hmn,Lib.hid (HR.out.up HV.out),HZ2,HN,Lib.hid (HW.out.trans HV.out)⟩
            case measure=>simp [lnS,intOf];omega
    · obtain rfl:i=m:=by omega
      have fi:decide ((i:Int)<i)=false:=decide_eq_false (by omega)
      have HRZ:Hid (R=Z):=Lib.hid (by
        have e:=HZr.out
        rw [Nat.sub_self,show R.drop i=[] from List.drop_eq_nil_of_le (by rw [HR.out.1];exact Nat.le_refl _),prL_nil,List.append_nil,List.take_of_length_le (by rw [HR.out.1];exact Nat.le_refl _)] at e
        exact e)
      obtain rfl:R=Z:=HRZ.out
      have UU:=HX.out.1.trans HW.out
      have c00:=HW.out.keep _ _ _ HX.out.2.1
      have c01:=HW.out.keep _ _ _ HX.out.2.2.1
      have c02:=HW.out.keep _ _ _ HX.out.2.2.2.1
      have c03:=HW.out.keep _ _ _ HX.out.2.2.2.2.1
      have c04:=HW.out.keep _ _ _ HX.out.2.2.2.2.2.1
      have c05:=HW.out.keep _ _ _ HX.out.2.2.2.2.2.2.1
      have c10:=HW.out.keep _ _ _ HX.out.2.2.2.2.2.2.2.1
      have c11:=HW.out.keep _ _ _ HX.out.2.2.2.2.2.2.2.2.1
      have c12:=HW.out.keep _ _ _ HX.out.2.2.2.2.2.2.2.2.2.1
      have c13:=HW.out.keep _ _ _ HX.out.2.2.2.2.2.2.2.2.2.2.1
      have c14:=HW.out.keep _ _ _ HX.out.2.2.2.2.2.2.2.2.2.2.2.1
      have c15:=HW.out.keep _ _ _ HX.out.2.2.2.2.2.2.2.2.2.2.2.2
      have z05:=UU.ownGe (g:=w.heap.size) (Nat.le_refl _) 5
      have z10:=UU.ownGe (g:=w.heap.size+1) (by omega) 0
      have z11:=UU.ownGe (g:=w.heap.size+1) (by omega) 1
      have z12:=UU.ownGe (g:=w.heap.size+1) (by omega) 2
      have z13:=UU.ownGe (g:=w.heap.size+1) (by omega) 3
      have z14:=UU.ownGe (g:=w.heap.size+1) (by omega) 4
      have z15:=UU.ownGe (g:=w.heap.size+1) (by omega) 5
      have UU:=Lib.hid UU
      have hlt:=World.block_lt_of_cell? _ _ c10
      have HRw:=HR
      clear HX HZr HRZ
      go_wp2_with fail
      refine bodyPost_ret (v:=.tuple #[.agg #[.int .i64 v,.int .i64 q,.int .i64 c,.int .i64 now,.int .i64 (seq+1),.slice B i kk],.int .i64 0]) (by simp [results,Tryz.results10,go_sem,c10,c11,c12,c13,c14,c15]) rfl ⟨B,i,kk,rfl,hmn,hmk,?_,?_⟩
      · exact (UU.out.setCell (Nat.le_refl _) _).setP6 (by omega)
      · exact (HRw.out.off (fun b_ o_ h_=>by have:=HN.out b_ o_ h_;omega) _).offP6 (fun b_ o_ h_=>by have:=HN.out b_ o_ h_;omega) _ _ _ _ _ _

theorem radd14_good (v q c now seq d:Int) (n k:Nat) (A:Option Addr) (X:List Mrk) (hn:n≤50000) (hk:n≤k) (hv:stP v q c now seq X=true) (hd:valG 4 d) (hf:fuM c seq X=false) (w:World) (hS:SG cM w A n X) :
    Calls Tryz.prog 10 #[.agg #[.int .i64 v,.int .i64 q,.int .i64 c,.int .i64 now,.int .i64 seq,.slice A n k],.int .i64 d] w fun e w'=>∃ A' n' k',e=.returned (.tuple #[.agg #[.int .i64 v,.int .i64 q,.int .i64 c,.int .i64 now,.int .i64 (seq+1),.slice A' n' k'],.int .i64 0])∧n'≤n+1∧n'≤k'∧Up w w'∧SG cM w' A' n' (adS q seq now d X):=by
  by_cases h0:0<n
  · exact radd14_good_pos v q c now seq d n k A X hn hk h0 hv hd hf w hS
  · exact radd14_good_zero v q c now seq d n k A X hn hk h0 hv hd hf w hS
end Go.Proofs.YtafkoddgefcpnaaGreat

namespace Go.Proofs.YtafkoddgefcpnaaGreat
open Go.RowKit
set_option linter.unusedVariables false

def advP (v q c now seq td:Int) (X:List Mrk):Int × Int × Int × Int × Int × List Mrk × Int :=
  if stP v q c now seq X=false then (0,0,0,0,0,[],2) else if td<now∨16777216<td then (0,0,0,0,0,[],3) else (v,q,c,td,seq,drM td v X,0)
def addP (v q c now seq d:Int) (X:List Mrk):Int × Int × Int × Int × Int × List Mrk × Int :=
  if stP v q c now seq X=false then (0,0,0,0,0,[],2) else if ¬ valG 4 d then (0,0,0,0,0,[],4) else if fuM c seq X=true then (0,0,0,0,0,[],5) else (v,q,c,now,seq+1,adS q seq now d X,0)
theorem adv14_all (v q c now seq td:Int) (n k:Nat) (A:Option Addr) (X:List Mrk) (hn:n≤50000) (hk:n≤k) {a0 a1 a2 a3 a4 e0:Int} {M:List Mrk} (h:advP v q c now seq td X=(a0,a1,a2,a3,a4,M,e0)) (w:World) (hS:SG cM w A n X) :
    Calls Tryz.prog 7 #[.agg #[.int .i64 v,.int .i64 q,.int .i64 c,.int .i64 now,.int .i64 seq,.slice A n k],.int .i64 td] w fun e w'=>∃ A' k',e=.returned (.tuple #[.agg #[.int .i64 a0,.int .i64 a1,.int .i64 a2,.int .i64 a3,.int .i64 a4,.slice A' M.length k'],.int .i64 e0])∧M.length≤n+1∧SG cM w' A' M.length M∧Up w w':=by
  unfold advP at h
  split at h
  · rename_i hv
    cases h
    exact (adv14_bad v q c now seq td n k A X hn hk hv w hS).mono (fun _ _ ⟨h1,h2⟩=>⟨none,0,h1,Nat.zero_le _,SG.none_,h2⟩)
  · rename_i hv
    rw [Bool.not_eq_false] at hv
    split at h
    · rename_i ht
      cases h
      exact (adv14_time v q c now seq td n k A X hn hk hv ht w hS).mono (fun _ _ ⟨h1,h2⟩=>⟨none,0,h1,Nat.zero_le _,SG.none_,h2⟩)
    · rename_i ht
      cases h
      refine (adv14_good v q c now seq td n k A X hn hk hv (by omega) (by omega) w hS).mono ?_
      rintro e w' ⟨A',n',k',rfl,hn',_,_,h3,h2⟩
      obtain rfl:(drM td v X).length=n':=h2.1
      exact ⟨A',k',rfl,by omega,h2,h3⟩
theorem add14_all (v q c now seq d:Int) (n k:Nat) (A:Option Addr) (X:List Mrk) (hn:n≤50000) (hk:n≤k) {a0 a1 a2 a3 a4 e0:Int} {M:List Mrk} (h:addP v q c now seq d X=(a0,a1,a2,a3,a4,M,e0)) (w:World) (hS:SG cM w A n X) :
    Calls Tryz.prog 9 #[.agg #[.int .i64 v,.int .i64 q,.int .i64 c,.int .i64 now,.int .i64 seq,.slice A n k],.int .i64 d] w fun e w'=>∃ A' k',e=.returned (.tuple #[.agg #[.int .i64 a0,.int .i64 a1,.int .i64 a2,.int .i64 a3,.int .i64 a4,.slice A' M.length k'],.int .i64 e0])∧M.length≤n+1∧SG cM w' A' M.length M∧Up w w':=by
  unfold addP at h
  split at h
  · rename_i hv
    cases h
    exact (add14_bad v q c now seq d n k A X hn hk hv w hS).mono (fun _ _ ⟨h1,h2⟩=>⟨none,0,h1,Nat.zero_le _,SG.none_,h2⟩)
  · rename_i hv
    rw [Bool.not_eq_false] at hv
    split at h
    · rename_i hd
      cases h
      exact (add14_range v q c now seq d n k A X hn hk hv hd w hS).mono (fun _ _ ⟨h1,h2⟩=>⟨none,0,h1,Nat.zero_le _,SG.none_,h2⟩)
    · rename_i hd
      have hd:=Classical.not_not.1 hd
      split at h
      · rename_i hf
        cases h
        exact (add14_full v q c now seq d n k A X hn hk hv hd hf w hS).mono (fun _ _ ⟨h1,h2⟩=>⟨none,0,h1,Nat.zero_le _,SG.none_,h2⟩)
      · rename_i hf
        rw [Bool.not_eq_true] at hf
        cases h
        refine (add14_good v q c now seq d n k A X hn hk hv hd hf w hS).mono ?_
        rintro e w' ⟨A',n',k',rfl,hn',_,_,h3,h2⟩
        obtain rfl:(adS q seq now d X).length=n':=h2.1
        exact ⟨A',k',rfl,by omega,h2,h3⟩
theorem radv14_all (v q c now seq td:Int) (n k:Nat) (A:Option Addr) (X:List Mrk) (hn:n≤50000) (hk:n≤k) {a0 a1 a2 a3 a4 e0:Int} {M:List Mrk} (h:advP v q c now seq td X=(a0,a1,a2,a3,a4,M,e0)) (w:World) (hS:SG cM w A n X) :
    Calls Tryz.prog 8 #[.agg #[.int .i64 v,.int .i64 q,.int .i64 c,.int .i64 now,.int .i64 seq,.slice A n k],.int .i64 td] w fun e w'=>∃ A' k',e=.returned (.tuple #[.agg #[.int .i64 a0,.int .i64 a1,.int .i64 a2,.int .i64 a3,.int .i64 a4,.slice A' M.length k'],.int .i64 e0])∧M.length≤n+1∧SG cM w' A' M.length M∧Up w w':=by
  unfold advP at h
  split at h
  · rename_i hv
    cases h
    exact (radv14_bad v q c now seq td n k A X hn hk hv w hS).mono (fun _ _ ⟨h1,h2⟩=>⟨none,0,h1,Nat.zero_le _,SG.none_,h2⟩)
  · rename_i hv
    rw [Bool.not_eq_false] at hv
    split at h
    · rename_i ht
      cases h
      exact (radv14_time v q c now seq td n k A X hn hk hv ht w hS).mono (fun _ _ ⟨h1,h2⟩=>⟨none,0,h1,Nat.zero_le _,SG.none_,h2⟩)
    · rename_i ht
      cases h
      refine (radv14_good v q c now seq td n k A X hn hk hv (by omega) (by omega) w hS).mono ?_
      rintro e w' ⟨A',n',k',rfl,hn',_,h3,h2⟩
      obtain rfl:(drM td v X).length=n':=h2.1
      exact ⟨A',k',rfl,by omega,h2,h3⟩
theorem radd14_all (v q c now seq d:Int) (n k:Nat) (A:Option Addr) (X:List Mrk) (hn:n≤50000) (hk:n≤k) {a0 a1 a2 a3 a4 e0:Int} {M:List Mrk} (h:addP v q c now seq d X=(a0,a1,a2,a3,a4,M,e0)) (w:World) (hS:SG cM w A n X) :
    Calls Tryz.prog 10 #[.agg #[.int .i64 v,.int .i64 q,.int .i64 c,.int .i64 now,.int .i64 seq,.slice A n k],.int .i64 d] w fun e w'=>∃ A' k',e=.returned (.tuple #[.agg #[.int .i64 a0,.int .i64 a1,.int .i64 a2,.int .i64 a3,.int .i64 a4,.slice A' M.length k'],.int .i64 e0])∧M.length≤n+1∧SG cM w' A' M.length M∧Up w w':=by
  unfold addP at h
  split at h
  · rename_i hv
    cases h
    exact (radd14_bad v q c now seq d n k A X hn hk hv w hS).mono (fun _ _ ⟨h1,h2⟩=>⟨none,0,h1,Nat.zero_le _,SG.none_,h2⟩)
  · rename_i hv
    rw [Bool.not_eq_false] at hv
    split at h
    · rename_i hd
      cases h
      exact (radd14_range v q c now seq d n k A X hn hk hv hd w hS).mono (fun _ _ ⟨h1,h2⟩=>⟨none,0,h1,Nat.zero_le _,SG.none_,h2⟩)
    · rename_i hd
      have hd:=Classical.not_not.1 hd
      split at h
      · rename_i hf
        cases h
        exact (radd14_full v q c now seq d n k A X hn hk hv hd hf w hS).mono (fun _ _ ⟨h1,h2⟩=>⟨none,0,h1,Nat.zero_le _,SG.none_,h2⟩)
      · rename_i hf
        rw [Bool.not_eq_true] at hf
        cases h
        refine (radd14_good v q c now seq d n k A X hn hk hv hd hf w hS).mono ?_
        rintro e w' ⟨A',n',k',rfl,hn',_,h3,h2⟩
        obtain rfl:(adS q seq now d X).length=n':=h2.1
        exact ⟨A',k',rfl,by omega,h2,h3⟩
end Go.Proofs.YtafkoddgefcpnaaGreat
