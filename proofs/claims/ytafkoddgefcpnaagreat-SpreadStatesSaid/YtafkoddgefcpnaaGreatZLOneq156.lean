/- Texts of these claims, one after the other. -/
import Derived.Test.YtafkoddgefcpnaaGreatRows
import Derived.Test.YtafkoddgefcpnaaGreatZHNumq161
import Derived.Test.YtafkoddgefcpnaaGreatZKSameq158
import Derived.Test.YtafkoddgefcpnaaGreatZLBaseq154
namespace Go.Proofs.YtafkoddgefcpnaaGreat
open Go.RowKit
set_option linter.unusedVariables false

set_option maxHeartbeats 4000000 in
set_option maxRecDepth 100000 in
theorem rclose14_up (sq1 t1 nn1 s1 qq1 lo1 hi1 sq2 t2 nn2 s2 qq2 lo2 hi2 k:Int) (w:World) :
    Calls Tryz.prog 35 #[.agg #[.int .i64 sq1,.int .i64 t1,.int .i64 nn1,.int .i64 s1,.int .i64 qq1,.int .i64 lo1,.int .i64 hi1],.agg #[.int .i64 sq2,.int .i64 t2,.int .i64 nn2,.int .i64 s2,.int .i64 qq2,.int .i64 lo2,.int .i64 hi2],.int .i64 k] w fun e w'=>e=.returned (.bool (clQ k ⟨sq1,t1,nn1,s1,qq1,lo1,hi1⟩ ⟨sq2,t2,nn2,s2,qq2,lo2,hi2⟩))∧Up w w':=by
  have KA:=Lib.hid (rmay14_up sq1 t1 nn1 s1 qq1 lo1 hi1)
  have KB:=Lib.hid (rmay14_up sq2 t2 nn2 s2 qq2 lo2 hi2)
  have KK:=Lib.hid (rmayK11_any k)
  cases ha:myM ⟨sq1,t1,nn1,s1,qq1,lo1,hi1⟩ with
  | false =>
    rw [clQ_no (fun h=>by rw [ha] at h;exact Bool.false_ne_true h.1)]
    rw [ha] at KA
    clear ha
    go_enter Tryz.func35,Tryz.ntmps35
    go_wp2_with (first | (go_at_call 71;(with_reducible refine (KA.out _).mono ?_);rintro e w1 ⟨rfl,hu⟩;have HU1:=Lib.hid ((((Up.refl w).alloc _ _).alloc _ _).trans hu);have a0:=hu.keep w.heap.size 0 (.int .i64 sq1) (by simp [go_sem]);have a1:=hu.keep w.heap.size 1 (.int .i64 t1) (by simp [go_sem]);have a2:=hu.keep w.heap.size 2 (.int .i64 nn1) (by simp [go_sem]);have a3:=hu.keep w.heap.size 3 (.int .i64 s1) (by simp [go_sem]);have a4:=hu.keep w.heap.size 4 (.int .i64 qq1) (by simp [go_sem]);have a5:=hu.keep w.heap.size 5 (.int .i64 lo1) (by simp [go_sem]);have a6:=hu.keep w.heap.size 6 (.int .i64 hi1) (by simp [go_sem]);have b0:=hu.keep (w.heap.size+1) 0 (.int .i64 sq2) (by simp [go_sem]);have b1:=hu.keep (w.heap.size+1) 1 (.int .i64 t2) (by simp [go_sem]);have b2:=hu.keep (w.heap.size+1) 2 (.int .i64 nn2) (by simp [go_sem]);have b3:=hu.keep (w.heap.size+1) 3 (.int .i64 s2) (by simp [go_sem]);have b4:=hu.keep (w.heap.size+1) 4 (.int .i64 qq2) (by simp [go_sem]);have b5:=hu.keep (w.heap.size+1) 5 (.int .i64 lo2) (by simp [go_sem]);have b6:=hu.keep (w.heap.size+1) 6 (.int .i64 hi2) (by simp [go_sem]);clear hu) | (go_at_call 71;(with_reducible refine (KB.out _).mono ?_);rintro e w2 ⟨rfl,hu⟩;have HU2:=Lib.hid (HU1.out.trans hu);have a0:=hu.keep _ _ _ a0;have a1:=hu.keep _ _ _ a1;have a2:=hu.keep _ _ _ a2;have a3:=hu.keep _ _ _ a3;have a4:=hu.keep _ _ _ a4;have a5:=hu.keep _ _ _ a5;have a6:=hu.keep _ _ _ a6;have b0:=hu.keep _ _ _ b0;have b1:=hu.keep _ _ _ b1;have b2:=hu.keep _ _ _ b2;have b3:=hu.keep _ _ _ b3;have b4:=hu.keep _ _ _ b4;have b5:=hu.keep _ _ _ b5;have b6:=hu.keep _ _ _ b6;clear hu) | (go_at_call 44;(with_reducible refine (KK.out _).mono ?_);rintro e w' ⟨rfl,rfl⟩))
    go_ret
    exact ⟨rfl,HU1.out⟩
  | true =>
  cases hb:myM ⟨sq2,t2,nn2,s2,qq2,lo2,hi2⟩ with
  | false =>
    rw [clQ_no (fun h=>by rw [hb] at h;exact Bool.false_ne_true h.2.1)]
    rw [ha] at KA
    rw [hb] at KB
    clear ha hb
    go_enter Tryz.func35,Tryz.ntmps35
    go_wp2_with (first | (go_at_call 71;(with_reducible refine (KA.out _).mono ?_);rintro e w1 ⟨rfl,hu⟩;have HU1:=Lib.hid ((((Up.refl w).alloc _ _).alloc _ _).trans hu);have a0:=hu.keep w.heap.size 0 (.int .i64 sq1) (by simp [go_sem]);have a1:=hu.keep w.heap.size 1 (.int .i64 t1) (by simp [go_sem]);have a2:=hu.keep w.heap.size 2 (.int .i64 nn1) (by simp [go_sem]);have a3:=hu.keep w.heap.size 3 (.int .i64 s1) (by simp [go_sem]);have a4:=hu.keep w.heap.size 4 (.int .i64 qq1) (by simp [go_sem]);have a5:=hu.keep w.heap.size 5 (.int .i64 lo1) (by simp [go_sem]);have a6:=hu.keep w.heap.size 6 (.int .i64 hi1) (by simp [go_sem]);have b0:=hu.keep (w.heap.size+1) 0 (.int .i64 sq2) (by simp [go_sem]);have b1:=hu.keep (w.heap.size+1) 1 (.int .i64 t2) (by simp [go_sem]);have b2:=hu.keep (w.heap.size+1) 2 (.int .i64 nn2) (by simp [go_sem]);have b3:=hu.keep (w.heap.size+1) 3 (.int .i64 s2) (by simp [go_sem]);have b4:=hu.keep (w.heap.size+1) 4 (.int .i64 qq2) (by simp [go_sem]);have b5:=hu.keep (w.heap.size+1) 5 (.int .i64 lo2) (by simp [go_sem]);have b6:=hu.keep (w.heap.size+1) 6 (.int .i64 hi2) (by simp [go_sem]);clear hu) | (go_at_call 71;(with_reducible refine (KB.out _).mono ?_);rintro e w2 ⟨rfl,hu⟩;have HU2:=Lib.hid (HU1.out.trans hu);have a0:=hu.keep _ _ _ a0;have a1:=hu.keep _ _ _ a1;have a2:=hu.keep _ _ _ a2;have a3:=hu.keep _ _ _ a3;have a4:=hu.keep _ _ _ a4;have a5:=hu.keep _ _ _ a5;have a6:=hu.keep _ _ _ a6;have b0:=hu.keep _ _ _ b0;have b1:=hu.keep _ _ _ b1;have b2:=hu.keep _ _ _ b2;have b3:=hu.keep _ _ _ b3;have b4:=hu.keep _ _ _ b4;have b5:=hu.keep _ _ _ b5;have b6:=hu.keep _ _ _ b6;clear hu) | (go_at_call 44;(with_reducible refine (KK.out _).mono ?_);rintro e w' ⟨rfl,rfl⟩))
    go_ret
    exact ⟨rfl,HU2.out⟩
  | true =>
  rw [ha] at KA
  rw [hb] at KB
  cases hkk:decide (1≤k∧k≤64) with
  | false =>
    rw [clQ_no (fun h=>of_decide_eq_false hkk h.2.2)]
    rw [hkk] at KK
    clear ha hb hkk
    go_enter Tryz.func35,Tryz.ntmps35
    go_wp2_with (first | (go_at_call 71;(with_reducible refine (KA.out _).mono ?_);rintro e w1 ⟨rfl,hu⟩;have HU1:=Lib.hid ((((Up.refl w).alloc _ _).alloc _ _).trans hu);have a0:=hu.keep w.heap.size 0 (.int .i64 sq1) (by simp [go_sem]);have a1:=hu.keep w.heap.size 1 (.int .i64 t1) (by simp [go_sem]);have a2:=hu.keep w.heap.size 2 (.int .i64 nn1) (by simp [go_sem]);have a3:=hu.keep w.heap.size 3 (.int .i64 s1) (by simp [go_sem]);have a4:=hu.keep w.heap.size 4 (.int .i64 qq1) (by simp [go_sem]);have a5:=hu.keep w.heap.size 5 (.int .i64 lo1) (by simp [go_sem]);have a6:=hu.keep w.heap.size 6 (.int .i64 hi1) (by simp [go_sem]);have b0:=hu.keep (w.heap.size+1) 0 (.int .i64 sq2) (by simp [go_sem]);have b1:=hu.keep (w.heap.size+1) 1 (.int .i64 t2) (by simp [go_sem]);have b2:=hu.keep (w.heap.size+1) 2 (.int .i64 nn2) (by simp [go_sem]);have b3:=hu.keep (w.heap.size+1) 3 (.int .i64 s2) (by simp [go_sem]);have b4:=hu.keep (w.heap.size+1) 4 (.int .i64 qq2) (by simp [go_sem]);have b5:=hu.keep (w.heap.size+1) 5 (.int .i64 lo2) (by simp [go_sem]);have b6:=hu.keep (w.heap.size+1) 6 (.int .i64 hi2) (by simp [go_sem]);clear hu) | (go_at_call 71;(with_reducible refine (KB.out _).mono ?_);rintro e w2 ⟨rfl,hu⟩;have HU2:=Lib.hid (HU1.out.trans hu);have a0:=hu.keep _ _ _ a0;have a1:=hu.keep _ _ _ a1;have a2:=hu.keep _ _ _ a2;have a3:=hu.keep _ _ _ a3;have a4:=hu.keep _ _ _ a4;have a5:=hu.keep _ _ _ a5;have a6:=hu.keep _ _ _ a6;have b0:=hu.keep _ _ _ b0;have b1:=hu.keep _ _ _ b1;have b2:=hu.keep _ _ _ b2;have b3:=hu.keep _ _ _ b3;have b4:=hu.keep _ _ _ b4;have b5:=hu.keep _ _ _ b5;have b6:=hu.keep _ _ _ b6;clear hu) | (go_at_call 44;(with_reducible refine (KK.out _).mono ?_);rintro e w' ⟨rfl,rfl⟩))
    go_ret
    exact ⟨rfl,HU2.out⟩
  | true =>
  rw [hkk] at KK
  have hk:1≤k∧k≤64:=of_decide_eq_true hkk
  clear hkk
  rw [clQ_form ha hb hk]
  have q1:=myM_bd ha
  have q2:=myM_bd hb
  have d1:=close_bd hk q1.1
  have d2:=close_bd hk q2.1
  simp only at q1 q2 d1 d2 ⊢
  obtain ⟨k1_,k2_⟩:=hk
  have w1_:IntKind.i64.wrap (6 * k)=6 * k:=by rw [IntKind.wrap_i64];omega
  have w2_:IntKind.i64.wrap (6 * k - 1)=6 * k - 1:=by rw [IntKind.wrap_i64];omega
  have w3_:IntKind.i64.wrap (6 * k * nn2)=6 * k * nn2:=by rw [IntKind.wrap_i64];omega
  have w4_:IntKind.i64.wrap ((6 * k - 1) * nn1)=(6 * k - 1) * nn1:=by rw [IntKind.wrap_i64];omega
  have w5_:IntKind.i64.wrap (6 * k * nn1)=6 * k * nn1:=by rw [IntKind.wrap_i64];omega
  have w6_:IntKind.i64.wrap ((6 * k - 1) * nn2)=(6 * k - 1) * nn2:=by rw [IntKind.wrap_i64];omega
  by_cases hn:6 * k * nn2<(6 * k - 1) * nn1
  · rw [decide_eq_false (p:=(6 * k - 1) * nn1≤6 * k * nn2) (by omega),Bool.false_and]
    have tk3:decide (6 * k * nn2<(6 * k - 1) * nn1)=true:=decide_eq_true hn
    clear ha hb q1 q2 d1 d2 hn
    go_enter Tryz.func35,Tryz.ntmps35
    go_wp2_with (first | (go_at_call 71;(with_reducible refine (KA.out _).mono ?_);rintro e w1 ⟨rfl,hu⟩;have HU1:=Lib.hid ((((Up.refl w).alloc _ _).alloc _ _).trans hu);have a0:=hu.keep w.heap.size 0 (.int .i64 sq1) (by simp [go_sem]);have a1:=hu.keep w.heap.size 1 (.int .i64 t1) (by simp [go_sem]);have a2:=hu.keep w.heap.size 2 (.int .i64 nn1) (by simp [go_sem]);have a3:=hu.keep w.heap.size 3 (.int .i64 s1) (by simp [go_sem]);have a4:=hu.keep w.heap.size 4 (.int .i64 qq1) (by simp [go_sem]);have a5:=hu.keep w.heap.size 5 (.int .i64 lo1) (by simp [go_sem]);have a6:=hu.keep w.heap.size 6 (.int .i64 hi1) (by simp [go_sem]);have b0:=hu.keep (w.heap.size+1) 0 (.int .i64 sq2) (by simp [go_sem]);have b1:=hu.keep (w.heap.size+1) 1 (.int .i64 t2) (by simp [go_sem]);have b2:=hu.keep (w.heap.size+1) 2 (.int .i64 nn2) (by simp [go_sem]);have b3:=hu.keep (w.heap.size+1) 3 (.int .i64 s2) (by simp [go_sem]);have b4:=hu.keep (w.heap.size+1) 4 (.int .i64 qq2) (by simp [go_sem]);have b5:=hu.keep (w.heap.size+1) 5 (.int .i64 lo2) (by simp [go_sem]);have b6:=hu.keep (w.heap.size+1) 6 (.int .i64 hi2) (by simp [go_sem]);clear hu) | (go_at_call 71;(with_reducible refine (KB.out _).mono ?_);rintro e w2 ⟨rfl,hu⟩;have HU2:=Lib.hid (HU1.out.trans hu);have a0:=hu.keep _ _ _ a0;have a1:=hu.keep _ _ _ a1;have a2:=hu.keep _ _ _ a2;have a3:=hu.keep _ _ _ a3;have a4:=hu.keep _ _ _ a4;have a5:=hu.keep _ _ _ a5;have a6:=hu.keep _ _ _ a6;have b0:=hu.keep _ _ _ b0;have b1:=hu.keep _ _ _ b1;have b2:=hu.keep _ _ _ b2;have b3:=hu.keep _ _ _ b3;have b4:=hu.keep _ _ _ b4;have b5:=hu.keep _ _ _ b5;have b6:=hu.keep _ _ _ b6;clear hu) | (go_at_call 44;(with_reducible refine (KK.out _).mono ?_);rintro e w' ⟨rfl,rfl⟩))
    go_ret
    exact ⟨rfl,HU2.out⟩
  have tk3:decide (6 * k * nn2<(6 * k - 1) * nn1)=false:=decide_eq_false hn
  rw [decide_eq_true (p:=(6 * k - 1) * nn1≤6 * k * nn2) (by omega),Bool.true_and]
  have v1_:IntKind.i64.wrap (nn1 * qq1)=nn1 * qq1:=by rw [IntKind.wrap_i64];omega
  have v2_:IntKind.i64.wrap (nn2 * qq2)=nn2 * qq2:=by rw [IntKind.wrap_i64];omega
  have v3_:IntKind.i64.wrap (s1 * s1)=s1 * s1:=by rw [IntKind.wrap_i64];omega
  have v4_:IntKind.i64.wrap (s2 * s2)=s2 * s2:=by rw [IntKind.wrap_i64];omega
  obtain ⟨b1_,b2_⟩:=q1.2.2.2.2.2
  obtain ⟨b3_,b4_⟩:=q2.2.2.2.2.2
  generalize hza:spM ⟨sq1,t1,nn1,s1,qq1,lo1,hi1⟩=za at *
  generalize hzb:spM ⟨sq2,t2,nn2,s2,qq2,lo2,hi2⟩=zb at *
  have e1:nn1 * qq1 - s1 * s1=za:=hza
  have e2:nn2 * qq2 - s2 * s2=zb:=hzb
  clear hza hzb
  have v5_:IntKind.i64.wrap za=za:=by rw [IntKind.wrap_i64];omega
  have v6_:IntKind.i64.wrap zb=zb:=by rw [IntKind.wrap_i64];omega
  have v7_:IntKind.u64.wrap za=za:=by rw [IntKind.wrap_u64];omega
  have v8_:IntKind.u64.wrap zb=zb:=by rw [IntKind.wrap_u64];omega
  have v9_:IntKind.u64.wrap (6 * k * nn1)=6 * k * nn1:=by rw [IntKind.wrap_u64];omega
  have v10_:IntKind.u64.wrap ((6 * k - 1) * nn2)=(6 * k - 1) * nn2:=by rw [IntKind.wrap_u64];omega
  have u1:Word za:=⟨by omega,by omega⟩
  have u2:Word zb:=⟨by omega,by omega⟩
  have u3:Word (6 * k * nn1):=⟨by omega,by omega⟩
  have u4:Word ((6 * k - 1) * nn2):=⟨by omega,by omega⟩
  have K1:=Lib.hid (rproduct_up zb (6 * k * nn1) u2 u3)
  have K2:=Lib.hid (rproduct_up za ((6 * k - 1) * nn2) u1 u4)
  have K3:=Lib.hid (rcompare_v (zb * (6 * k * nn1)) (za * ((6 * k - 1) * nn2)) (mul_word u2 u3) (mul_word u1 u4))
  have HD:Hid (decide (0≤cmpZ (zb * (6 * k * nn1)) (za * ((6 * k - 1) * nn2)))=decide (za * ((6 * k - 1) * nn2)≤zb * (6 * k * nn1))):=Lib.hid (by have:=cross_ge (a:=zb) (b:=6 * k * nn1) (c:=za) (d:=(6 * k - 1) * nn2);rwa [crossZ_eq] at this)
  rw [← HD.out]
  clear HD ha hb q1 q2 d1 d2 hn u1 u2 u3 u4
  generalize cmpZ (zb * (6 * k * nn1)) (za * ((6 * k - 1) * nn2))=x at *
  generalize hiZ (zb * (6 * k * nn1))=p1 at *
  generalize loZ (zb * (6 * k * nn1))=p2 at *
  generalize hiZ (za * ((6 * k - 1) * nn2))=p3 at *
  generalize loZ (za * ((6 * k - 1) * nn2))=p4 at *
  go_enter Tryz.func35,Tryz.ntmps35
  go_upto_region 3 with (first | (go_at_call 71;(with_reducible refine (KA.out _).mono ?_);rintro e w1 ⟨rfl,hu⟩;have HU1:=Lib.hid ((((Up.refl w).alloc _ _).alloc _ _).trans hu);have a0:=hu.keep w.heap.size 0 (.int .i64 sq1) (by simp [go_sem]);have a1:=hu.keep w.heap.size 1 (.int .i64 t1) (by simp [go_sem]);have a2:=hu.keep w.heap.size 2 (.int .i64 nn1) (by simp [go_sem]);have a3:=hu.keep w.heap.size 3 (.int .i64 s1) (by simp [go_sem]);have a4:=hu.keep w.heap.size 4 (.int .i64 qq1) (by simp [go_sem]);have a5:=hu.keep w.heap.size 5 (.int .i64 lo1) (by simp [go_sem]);have a6:=hu.keep w.heap.size 6 (.int .i64 hi1) (by simp [go_sem]);have b0:=hu.keep (w.heap.size+1) 0 (.int .i64 sq2) (by simp [go_sem]);have b1:=hu.keep (w.heap.size+1) 1 (.int .i64 t2) (by simp [go_sem]);have b2:=hu.keep (w.heap.size+1) 2 (.int .i64 nn2) (by simp [go_sem]);have b3:=hu.keep (w.heap.size+1) 3 (.int .i64 s2) (by simp [go_sem]);have b4:=hu.keep (w.heap.size+1) 4 (.int .i64 qq2) (by simp [go_sem]);have b5:=hu.keep (w.heap.size+1) 5 (.int .i64 lo2) (by simp [go_sem]);have b6:=hu.keep (w.heap.size+1) 6 (.int .i64 hi2) (by simp [go_sem]);clear hu) | (go_at_call 71;(with_reducible refine (KB.out _).mono ?_);rintro e w2 ⟨rfl,hu⟩;have HU2:=Lib.hid (HU1.out.trans hu);have a0:=hu.keep _ _ _ a0;have a1:=hu.keep _ _ _ a1;have a2:=hu.keep _ _ _ a2;have a3:=hu.keep _ _ _ a3;have a4:=hu.keep _ _ _ a4;have a5:=hu.keep _ _ _ a5;have a6:=hu.keep _ _ _ a6;have b0:=hu.keep _ _ _ b0;have b1:=hu.keep _ _ _ b1;have b2:=hu.keep _ _ _ b2;have b3:=hu.keep _ _ _ b3;have b4:=hu.keep _ _ _ b4;have b5:=hu.keep _ _ _ b5;have b6:=hu.keep _ _ _ b6;clear hu) | (go_at_call 44;(with_reducible refine (KK.out _).mono ?_);rintro e w' ⟨rfl,rfl⟩))
  have HSS:Hid (Up w w2∧w2.cell? ⟨w.heap.size,0,none⟩=some (.int .i64 sq1)∧w2.cell? ⟨w.heap.size,1,none⟩=some (.int .i64 t1)∧w2.cell? ⟨w.heap.size,2,none⟩=some (.int .i64 nn1)∧w2.cell? ⟨w.heap.size,3,none⟩=some (.int .i64 s1)∧w2.cell? ⟨w.heap.size,4,none⟩=some (.int .i64 qq1)∧w2.cell? ⟨w.heap.size,5,none⟩=some (.int .i64 lo1)∧w2.cell? ⟨w.heap.size,6,none⟩=some (.int .i64 hi1)∧w2.cell? ⟨(w.heap.size+1),0,none⟩=some (.int .i64 sq2)∧w2.cell? ⟨(w.heap.size+1),1,none⟩=some (.int .i64 t2)∧w2.cell? ⟨(w.heap.size+1),2,none⟩=some (.int .i64 nn2)∧w2.cell? ⟨(w.heap.size+1),3,none⟩=some (.int .i64 s2)∧w2.cell? ⟨(w.heap.size+1),4,none⟩=some (.int .i64 qq2)∧w2.cell? ⟨(w.heap.size+1),5,none⟩=some (.int .i64 lo2)∧w2.cell? ⟨(w.heap.size+1),6,none⟩=some (.int .i64 hi2)):=Lib.hid ⟨HU2.out,a0,a1,a2,a3,a4,a5,a6,b0,b1,b2,b3,b4,b5,b6⟩
  clear a0 a1 a2 a3 a4 a5 a6 b0 b1 b2 b3 b4 b5 b6
  go_wp2_with fail
  refine wp_region_held_drew (S:=fun w'=>Up w w'∧w'.cell? ⟨w.heap.size,0,none⟩=some (.int .i64 sq1)∧w'.cell? ⟨w.heap.size,1,none⟩=some (.int .i64 t1)∧w'.cell? ⟨w.heap.size,2,none⟩=some (.int .i64 nn1)∧w'.cell? ⟨w.heap.size,3,none⟩=some (.int .i64 s1)∧w'.cell? ⟨w.heap.size,4,none⟩=some (.int .i64 qq1)∧w'.cell? ⟨w.heap.size,5,none⟩=some (.int .i64 lo1)∧w'.cell? ⟨w.heap.size,6,none⟩=some (.int .i64 hi1)∧w'.cell? ⟨(w.heap.size+1),0,none⟩=some (.int .i64 sq2)∧w'.cell? ⟨(w.heap.size+1),1,none⟩=some (.int .i64 t2)∧w'.cell? ⟨(w.heap.size+1),2,none⟩=some (.int .i64 nn2)∧w'.cell? ⟨(w.heap.size+1),3,none⟩=some (.int .i64 s2)∧w'.cell? ⟨(w.heap.size+1),4,none⟩=some (.int .i64 qq2)∧w'.cell? ⟨(w.heap.size+1),5,none⟩=some (.int .i64 lo2)∧w'.cell? ⟨(w.heap.size+1),6,none⟩=some (.int .i64 hi2)) (by kernel_rfl) ?hB48 (fun hHeld=>?_)
  case hB48=>(first | (with_reducible assumption) | (with_reducible exact keepK14 (Lib.hid (Up.refl _).drew) HSS.out))
  refine takeT 0 rfl (by assumption) ?_
  (try simp only [Act.put,stpA,stpB,stpC])
  refine takeT 1 rfl (by assumption) ?_
  (try simp only [Act.put,stpA,stpB,stpC])
  refine takeT 2 rfl (by assumption) ?_
  (try simp only [Act.put,stpA,stpB,stpC])
  refine takeT 3 rfl (by assumption) ?_
  (try simp only [Act.put,stpA,stpB,stpC])
  refine takeT 4 rfl (by assumption) ?_
  (try simp only [Act.put,stpA,stpB,stpC])
  refine takeT 5 rfl (by assumption) ?_
  (try simp only [Act.put,stpA,stpB,stpC])
  refine takeT 6 rfl (by assumption) ?_
  (try simp only [Act.put,stpA,stpB,stpC])
  refine takeT 7 rfl (by assumption) ?_
  (try simp only [Act.put,stpA,stpB,stpC])
  refine takeT 8 rfl (by assumption) ?_
  (try simp only [Act.put,stpA,stpB,stpC])
  refine takeT 9 rfl (by assumption) ?_
  (try simp only [Act.put,stpA,stpB,stpC])
  refine takeT 10 rfl (by assumption) ?_
  (try simp only [Act.put,stpA,stpB,stpC])
  refine takeT 11 rfl (by assumption) ?_
  (try simp only [Act.put,stpA,stpB,stpC])
  refine takeT 12 rfl (by assumption) ?_
  (try simp only [Act.put,stpA,stpB,stpC])
  refine takeT 13 rfl (by assumption) ?_
  (try simp only [Act.put,stpA,stpB,stpC])
  refine takeT 14 rfl (by assumption) ?_
  (try simp only [Act.put,stpA,stpB,stpC])
  refine takeT 15 rfl (by assumption) ?_
  (try simp only [Act.put,stpA,stpB,stpC])
  refine takeT 16 rfl (by assumption) ?_
  (try simp only [Act.put,stpA,stpB,stpC])
  refine takeT 17 rfl (by assumption) ?_
  (try simp only [Act.put,stpA,stpB,stpC])
  refine takeT 18 rfl (by assumption) ?_
  (try simp only [Act.put,stpA,stpB,stpC])
  refine takeT 19 rfl (by assumption) ?_
  (try simp only [Act.put,stpA,stpB,stpC])
  refine takeT 20 rfl (by assumption) ?_
  (try simp only [Act.put,stpA,stpB,stpC])
  refine takeT 21 rfl (by assumption) ?_
  (try simp only [Act.put,stpA,stpB,stpC])
  refine takeT 22 rfl (by assumption) ?_
  (try simp only [Act.put,stpA,stpB,stpC])
  refine takeT 23 rfl (by assumption) ?_
  (try simp only [Act.put,stpA,stpB,stpC])
  refine takeT 24 rfl (by assumption) ?_
  (try simp only [Act.put,stpA,stpB,stpC])
  refine takeT 25 rfl (by assumption) ?_
  (try simp only [Act.put,stpA,stpB,stpC])
  refine wpAnyH_done (by kernel_rfl) ?_ _
  clear HSS
  obtain ⟨u8,y0,y1,y2,y3,y4,y5,y6,y7,y8,y9,y10,y11,y12,y13⟩:=hHeld
  (repeat clear ‹Up w _∧_›)
  have HSS:=Lib.hid (And.intro u8 (And.intro y0 (And.intro y1 (And.intro y2 (And.intro y3 (And.intro y4 (And.intro y5 (And.intro y6 (And.intro y7 (And.intro y8 (And.intro y9 (And.intro y10 (And.intro y11 (And.intro y12 y13))))))))))))))
  clear u8 y0 y1 y2 y3 y4 y5 y6 y7 y8 y9 y10 y11 y12 y13
  go_wp2_with fail
  refine wp_region_held_drew (S:=fun w'=>Up w w'∧w'.cell? ⟨w.heap.size,0,none⟩=some (.int .i64 sq1)∧w'.cell? ⟨w.heap.size,1,none⟩=some (.int .i64 t1)∧w'.cell? ⟨w.heap.size,2,none⟩=some (.int .i64 nn1)∧w'.cell? ⟨w.heap.size,3,none⟩=some (.int .i64 s1)∧w'.cell? ⟨w.heap.size,4,none⟩=some (.int .i64 qq1)∧w'.cell? ⟨w.heap.size,5,none⟩=some (.int .i64 lo1)∧w'.cell? ⟨w.heap.size,6,none⟩=some (.int .i64 hi1)∧w'.cell? ⟨(w.heap.size+1),0,none⟩=some (.int .i64 sq2)∧w'.cell? ⟨(w.heap.size+1),1,none⟩=some (.int .i64 t2)∧w'.cell? ⟨(w.heap.size+1),2,none⟩=some (.int .i64 nn2)∧w'.cell? ⟨(w.heap.size+1),3,none⟩=some (.int .i64 s2)∧w'.cell? ⟨(w.heap.size+1),4,none⟩=some (.int .i64 qq2)∧w'.cell? ⟨(w.heap.size+1),5,none⟩=some (.int .i64 lo2)∧w'.cell? ⟨(w.heap.size+1),6,none⟩=some (.int .i64 hi2)) (by kernel_rfl) ?hB27 (fun hHeld=>?_)
  case hB27=>(first | (with_reducible assumption) | (with_reducible exact keepK14 (Lib.hid (Up.refl _).drew) HSS.out) | (with_reducible exact HX3.out) | (with_reducible exact HX4.out) | (with_reducible exact HX5.out))
  refine takeT 0 rfl (by assumption) ?_
  (try simp only [Act.put,stpA,stpB,stpC])
  refine takeT 1 rfl (by assumption) ?_
  (try simp only [Act.put,stpA,stpB,stpC])
  refine takeT 2 rfl (by assumption) ?_
  (try simp only [Act.put,stpA,stpB,stpC])
  refine takeT 3 rfl (by assumption) ?_
  (try simp only [Act.put,stpA,stpB,stpC])
  refine takeT 4 rfl (by assumption) ?_
  (try simp only [Act.put,stpA,stpB,stpC])
  refine takeT 5 rfl (by assumption) ?_
  (try simp only [Act.put,stpA,stpB,stpC])
  refine takeT 6 rfl (by assumption) ?_
  (try simp only [Act.put,stpA,stpB,stpC])
  refine takeT 8 rfl (by assumption) ?_
  (try simp only [Act.put,stpA,stpB,stpC])
  refine takeT 9 rfl (by assumption) ?_
  (try simp only [Act.put,stpA,stpB,stpC])
  refine takeT 10 rfl (by assumption) ?_
  (try simp only [Act.put,stpA,stpB,stpC])
  refine takeT 11 rfl (by assumption) ?_
  (try simp only [Act.put,stpA,stpB,stpC])
  refine takeT 12 rfl (by assumption) ?_
  (try simp only [Act.put,stpA,stpB,stpC])
  refine takeT 13 rfl (by assumption) ?_
  (try simp only [Act.put,stpA,stpB,stpC])
  refine takeT 14 rfl (by assumption) ?_
  (try simp only [Act.put,stpA,stpB,stpC])
  refine takeT 15 rfl (by assumption) ?_
  (try simp only [Act.put,stpA,stpB,stpC])
  refine wpAnyH_ready (rs:=[7]) (by kernel_rfl) (by simp) ?_
  refine AllReadyH.cons (o:=⟨_,_,_,_,_,_⟩) rfl (fun K hK=>?_) AllReadyH.nil
  go_simp
  (go_at_call 73;(with_reducible refine (K1.out _).mono ?_);rintro e w3 ⟨rfl,hu⟩;have HU3:=Lib.hid hu;have HX3:=Lib.hid (keepK14 HU3 hHeld);clear hu)
  (try go_wp2_with fail)
  refine hK.out _ _ ?hB43 (fun hHeld=>?_)
  case hB43=>(first | (with_reducible assumption) | (with_reducible exact keepK14 (Lib.hid (Up.refl _).drew) HSS.out) | (with_reducible exact HX3.out) | (with_reducible exact HX4.out) | (with_reducible exact HX5.out))
  clear hK K
  (try simp only [Act.put,stpA,stpB,stpC])
  refine wpAnyH_ready (rs:=[16]) (by kernel_rfl) (by simp) ?_
  refine AllReadyH.cons (o:=⟨_,_,_,_,_,_⟩) rfl (fun K hK=>?_) AllReadyH.nil
  go_simp
  (go_at_call 73;(with_reducible refine (K2.out _).mono ?_);rintro e w4 ⟨rfl,hu⟩;have HU4:=Lib.hid hu;have HX4:=Lib.hid (keepK14 HU4 hHeld);clear hu)
  (try go_wp2_with fail)
  refine hK.out _ _ ?hB44 (fun hHeld=>?_)
  case hB44=>(first | (with_reducible assumption) | (with_reducible exact keepK14 (Lib.hid (Up.refl _).drew) HSS.out) | (with_reducible exact HX3.out) | (with_reducible exact HX4.out) | (with_reducible exact HX5.out))
  clear hK K
  (try simp only [Act.put,stpA,stpB,stpC])
  refine wpAnyH_ready (rs:=[17]) (by kernel_rfl) (by simp) ?_
  refine AllReadyH.cons (o:=⟨_,_,_,_,_,_⟩) rfl (fun K hK=>?_) AllReadyH.nil
  go_simp
  (go_at_call 72;(with_reducible refine (K3.out _).mono ?_);rintro e w5 ⟨rfl,hu⟩;have HU5:=Lib.hid hu;have HX5:=Lib.hid (keepK14 HU5 hHeld);clear hu)
  (try go_wp2_with fail)
  refine hK.out _ _ ?hB45 (fun hHeld=>?_)
  case hB45=>(first | (with_reducible assumption) | (with_reducible exact keepK14 (Lib.hid (Up.refl _).drew) HSS.out) | (with_reducible exact HX3.out) | (with_reducible exact HX4.out) | (with_reducible exact HX5.out))
  clear hK K
  (try simp only [Act.put,stpA,stpB,stpC])
  refine takeT 18 rfl (by assumption) ?_
  (try simp only [Act.put,stpA,stpB,stpC])
  refine takeT 19 rfl (by assumption) ?_
  (try simp only [Act.put,stpA,stpB,stpC])
  refine wpAnyH_done (by kernel_rfl) ?_ _
  go_wp2_with fail
  go_ret
  exact ⟨rfl,HX5.out.1⟩

end Go.Proofs.YtafkoddgefcpnaaGreat

namespace Go.Proofs.YtafkoddgefcpnaaGreat
open Go.RowKit
set_option linter.unusedVariables false

set_option maxHeartbeats 4000000 in
set_option maxRecDepth 100000 in
theorem same14_t (v q c now seq:Int) (n k k2:Nat) (A B:Option Addr) (L:List Mrk) (hn:n≤1000000) (w:World) (hA:SG cM w A n L) (hB:SG cM w B n L) :
    Calls Tryz.prog 15 #[.agg #[.int .i64 v,.int .i64 q,.int .i64 c,.int .i64 now,.int .i64 seq,.slice A n k],.agg #[.int .i64 v,.int .i64 q,.int .i64 c,.int .i64 now,.int .i64 seq,.slice B n k2]] w fun e w'=>e=.returned (.bool true)∧Up w w':=by
  have KS:=Lib.hid (fun W (hu:Up w W)=>sameM_t n k k2 A B L hn W (hA.up hu) (hB.up hu))
  clear hA hB
  go_enter Tryz.func15,Tryz.ntmps15
  go_wp2_with (go_at_call 46;(with_reducible refine (KS.out _ (((Up.refl w).alloc _ _).alloc _ _)).mono ?_);rintro e w1 ⟨rfl,hu⟩;have HU:=Lib.hid hu;clear hu)
  go_ret
  exact ⟨rfl,(((Up.refl w).alloc _ _).alloc _ _).trans HU.out⟩
theorem few14_any (v q c now seq:Int) (n k:Nat) (A:Option Addr) (w:World) :
    Calls Tryz.prog 5 #[.agg #[.int .i64 v,.int .i64 q,.int .i64 c,.int .i64 now,.int .i64 seq,.slice A n k]] w fun e w'=>e=.returned (.bool (decide ((n:Int)≤300)))∧Up w w':=by
  go_enter Tryz.func5,Tryz.ntmps5
  go_wp2
  go_ret
  refine ⟨rfl,?_⟩
  repeat (first | exact Up.refl _ | refine Up.alloc ?_ _ _ | refine Up.setCell ?_ (by first | (simp;done) | (simp;omega) | omega) _ | refine Up.drewN ?_ _ | refine Up.drew ?_)
end Go.Proofs.YtafkoddgefcpnaaGreat
