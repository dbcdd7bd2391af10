/- What wide.Div returns. -/
import Derived.Test.YtafkoddgefcpnaaGreatRows
import Derived.Test.YtafkoddgefcpnaaGreatZWLongq113
namespace Go.Proofs.YtafkoddgefcpnaaGreat
open Go.RowKit

set_option maxHeartbeats 4000000 in
set_option maxRecDepth 100000 in
theorem div_pos (ah al bh bl:Int) (h1:Word ah) (h2:Word al) (h3:Word bh) (h4:Word bl) (hb:val bh bl ≠ 0) (w:World) :
    Calls Tryz.prog 112 #[.agg #[.int .u64 ah,.int .u64 al],.agg #[.int .u64 bh,.int .u64 bl]] w fun e w' =>
      e=.returned (.tuple #[.agg #[.int .u64 (hiZ (val ah al / val bh bl)),.int .u64 (loZ (val ah al / val bh bl))],.agg #[.int .u64 (hiZ (val ah al % val bh bl)),.int .u64 (loZ (val ah al % val bh bl))],.bool true])∧Up w w':=by
  have t:=zB_no hb
  have ha:=val_in h1 h2
  by_cases hz:bh=0
  · have t1:(bh == 0)=true:=beq_iff_eq.2 hz
    have ev:val bh bl=bl:=by unfold val;omega
    have hbl:0<bl:=by obtain ⟨d1,_⟩:=h4;omega
    have HD:=Lib.hid (fun W=>divShort_up ah al bl h1 h2 h4 hbl W)
    have m0:=Int.emod_nonneg (val ah al) (show bl ≠ 0 by omega)
    have m1:=Int.emod_lt_of_pos (val ah al) hbl
    have HE:=Lib.hid (show hiZ (val ah al % bl)=0∧loZ (val ah al % bl)=val ah al % bl by obtain ⟨_,d2⟩:=h4;unfold hiZ loZ;omega)
    have HV:=Lib.hid ev
    clear hb hz ev ha m0 m1
    go_enter Tryz.func112,Tryz.ntmps112
    go_wp2_with fail
    refine (isZero_up bh bl h3 h4 _).mono ?_
    rintro e w1 ⟨rfl,hu1⟩
    have a0:=hu1.keep w.heap.size 0 (.int .u64 ah) (by simp [go_sem])
    have a1:=hu1.keep w.heap.size 1 (.int .u64 al) (by simp [go_sem])
    have b0:=hu1.keep (w.heap.size+1) 0 (.int .u64 bh) (by simp [go_sem])
    have b1:=hu1.keep (w.heap.size+1) 1 (.int .u64 bl) (by simp [go_sem])
    have r0:=hu1.keep (w.heap.size+1+1) 0 (.int .u64 0) (by simp [go_sem])
    have r1:=hu1.keep (w.heap.size+1+1) 1 (.int .u64 0) (by simp [go_sem])
    have s0:=hu1.keep (w.heap.size+1+1+1) 0 (.int .u64 0) (by simp [go_sem])
    have s1:=hu1.keep (w.heap.size+1+1+1) 1 (.int .u64 0) (by simp [go_sem])
    have up1:Up w w1:=by
      refine Up.trans ?_ hu1
      repeat (first | exact Up.refl _ | refine Up.alloc ?_ _ _ | refine Up.setCell ?_ (by first | (simp;done) | (simp;omega) | omega) _ | refine Up.drewN ?_ _ | refine Up.drew ?_)
    have HU1:=Lib.hid up1
    clear hu1 up1
    go_wp2_with fail
    refine (HD.out _).mono ?_
    rintro e w2 ⟨rfl,hu2⟩
    have r0':=hu2.keep _ _ _ r0
    have r1':=hu2.keep _ _ _ r1
    have s0':=hu2.keep _ _ _ s0
    have s1':=hu2.keep _ _ _ s1
    have HU2:=Lib.hid (HU1.out.trans hu2)
    have ls:w.heap.size+1+1+1<w2.heap.size:=World.block_lt_of_cell? _ _ s0'
    have lr:w.heap.size+1+1<w2.heap.size:=by omega
    have za:=HU2.out.own 2 0
    have zb:=HU2.out.own 2 1
    have zc:=HU2.out.own 3 0
    have zd:=HU2.out.own 3 1
    rw [show w.heap.size+2=w.heap.size+1+1 by omega] at za zb
    rw [show w.heap.size+3=w.heap.size+1+1+1 by omega] at zc zd
    clear hu2 r0 r1 s0 s1 a0 a1 b0 b1
    generalize hq:val ah al / bl=q at *
    generalize hr:val ah al % bl=r at *
    have Hq:=Lib.hid hq
    have Hr:=Lib.hid hr
    clear hq hr
    go_wp2_with fail
    go_region_held3 (fun w'=>Up w w'∧w'.cell? ⟨w2.heap.size,0,none⟩=some (.int .u64 (hiZ q))∧w'.cell? ⟨w2.heap.size,1,none⟩=some (.int .u64 (loZ q)))
      (first | (exact keep2 (by assumption) (by assumption)) | (exact ⟨((HU2.out.alloc _ _).drew),by simp [go_sem],by simp [go_sem]⟩) | (repeat (first | assumption | (exact Hid.out (by assumption)) | (refine set2 ?_ (by omega) (by omega) (by omega)))))
      (first
        | (go_at_call 60;(with_reducible refine (of_up r _).mono ?_);rintro e w3 ⟨rfl,hu3⟩;have HU3:=Lib.hid hu3;have HS3:=Lib.hid (keep2 HU3 (by assumption));obtain ⟨hc3,hz3⟩:=hu3.cells;have hs3:=hu3.size;(try simp at hs3);clear hu3;(try unfold got2);(try (have p3_0:w2.heap.size<w3.heap.size:=by omega));have R0:w3.cell? ⟨w.heap.size+1+1,0,none⟩=some (.int .u64 0):=(hc3 _ _ (by simp;omega)).trans (by simp [go_sem, *]);have R1:w3.cell? ⟨w.heap.size+1+1,1,none⟩=some (.int .u64 0):=(hc3 _ _ (by simp;omega)).trans (by simp [go_sem, *]);have S0:w3.cell? ⟨w.heap.size+1+1+1,0,none⟩=some (.int .u64 0):=(hc3 _ _ (by simp;omega)).trans (by simp [go_sem, *]);have S1:w3.cell? ⟨w.heap.size+1+1+1,1,none⟩=some (.int .u64 0):=(hc3 _ _ (by simp;omega)).trans (by simp [go_sem, *]);have ZA:w3.frozen? ⟨w.heap.size+1+1,0,none⟩=false:=(hz3 _).trans ((frozen?_alloc_cells _ _ _ _).trans za);have ZB:w3.frozen? ⟨w.heap.size+1+1,1,none⟩=false:=(hz3 _).trans ((frozen?_alloc_cells _ _ _ _).trans zb);have ZC:w3.frozen? ⟨w.heap.size+1+1+1,0,none⟩=false:=(hz3 _).trans ((frozen?_alloc_cells _ _ _ _).trans zc);have ZD:w3.frozen? ⟨w.heap.size+1+1+1,1,none⟩=false:=(hz3 _).trans ((frozen?_alloc_cells _ _ _ _).trans zd);clear hc3 hz3)
        )
    all_goals
      go_wp2_with fail
      refine bodyPost_ret (v:=.tuple #[.agg #[.int .u64 (hiZ q),.int .u64 (loZ q)],.agg #[.int .u64 0,.int .u64 r],.bool true]) (by simp [results,Tryz.results112,go_sem,R0,R1,S0,S1]) rfl ⟨?_,?_⟩
      · rw [HV.out,Hq.out,Hr.out,HE.out.1,HE.out.2]
      · exact And.left (by assumption)
  · have t1:(bh == 0)=false:=beq_eq_false_iff_ne.2 hz
    have HD:=Lib.hid (fun W=>divLong_up ah al bh bl h1 h2 h3 h4 hz W)
    have HE:=Lib.hid (show hiZ (val ah al / val bh bl)=0∧loZ (val ah al / val bh bl)=val ah al / val bh bl by
      have hvb:18446744073709551616≤val bh bl:=by obtain ⟨c1,_⟩:=h3;obtain ⟨d1,_⟩:=h4;unfold val;omega
      have q0:0≤val ah al / val bh bl:=Int.ediv_nonneg ha.1 (by omega)
      have q1:val ah al / val bh bl<18446744073709551616:=Int.ediv_lt_of_lt_mul (by omega) (by
        have:18446744073709551616 * 18446744073709551616≤18446744073709551616 * val bh bl:=by omega
        obtain ⟨_,ha1⟩:=ha;omega)
      unfold hiZ loZ;omega)
    clear hb hz ha
    go_enter Tryz.func112,Tryz.ntmps112
    go_wp2_with fail
    refine (isZero_up bh bl h3 h4 _).mono ?_
    rintro e w1 ⟨rfl,hu1⟩
    have a0:=hu1.keep w.heap.size 0 (.int .u64 ah) (by simp [go_sem])
    have a1:=hu1.keep w.heap.size 1 (.int .u64 al) (by simp [go_sem])
    have b0:=hu1.keep (w.heap.size+1) 0 (.int .u64 bh) (by simp [go_sem])
    have b1:=hu1.keep (w.heap.size+1) 1 (.int .u64 bl) (by simp [go_sem])
    have r0:=hu1.keep (w.heap.size+1+1) 0 (.int .u64 0) (by simp [go_sem])
    have r1:=hu1.keep (w.heap.size+1+1) 1 (.int .u64 0) (by simp [go_sem])
    have s0:=hu1.keep (w.heap.size+1+1+1) 0 (.int .u64 0) (by simp [go_sem])
    have s1:=hu1.keep (w.heap.size+1+1+1) 1 (.int .u64 0) (by simp [go_sem])
    have up1:Up w w1:=by
      refine Up.trans ?_ hu1
      repeat (first | exact Up.refl _ | refine Up.alloc ?_ _ _ | refine Up.setCell ?_ (by first | (simp;done) | (simp;omega) | omega) _ | refine Up.drewN ?_ _ | refine Up.drew ?_)
    have HU1:=Lib.hid up1
    clear hu1 up1
    go_wp2_with fail
    refine (HD.out _).mono ?_
    rintro e w2 ⟨rfl,hu2⟩
    have r0':=hu2.keep _ _ _ r0
    have r1':=hu2.keep _ _ _ r1
    have s0':=hu2.keep _ _ _ s0
    have s1':=hu2.keep _ _ _ s1
    have HU2:=Lib.hid (HU1.out.trans hu2)
    have ls:w.heap.size+1+1+1<w2.heap.size:=World.block_lt_of_cell? _ _ s0'
    have lr:w.heap.size+1+1<w2.heap.size:=by omega
    have za:=HU2.out.own 2 0
    have zb:=HU2.out.own 2 1
    have zc:=HU2.out.own 3 0
    have zd:=HU2.out.own 3 1
    rw [show w.heap.size+2=w.heap.size+1+1 by omega] at za zb
    rw [show w.heap.size+3=w.heap.size+1+1+1 by omega] at zc zd
    clear hu2 r0 r1 s0 s1 a0 a1 b0 b1
    generalize hq:val ah al / val bh bl=q at *
    generalize hr:val ah al % val bh bl=r at *
    have Hq:=Lib.hid hq
    have Hr:=Lib.hid hr
    clear hq hr
    go_wp2_with fail
    go_region_held3 (fun w'=>Up w w'∧w'.cell? ⟨w2.heap.size,0,none⟩=some (.int .u64 (hiZ r))∧w'.cell? ⟨w2.heap.size,1,none⟩=some (.int .u64 (loZ r)))
      (first | (exact keep2 (by assumption) (by assumption)) | (exact ⟨((HU2.out.alloc _ _).drew),by simp [go_sem],by simp [go_sem]⟩) | (repeat (first | assumption | (exact Hid.out (by assumption)) | (refine set2 ?_ (by omega) (by omega) (by omega)))))
      (first
        | (go_at_call 60;(with_reducible refine (of_up q _).mono ?_);rintro e w3 ⟨rfl,hu3⟩;have HU3:=Lib.hid hu3;have HS3:=Lib.hid (keep2 HU3 (by assumption));obtain ⟨hc3,hz3⟩:=hu3.cells;have hs3:=hu3.size;(try simp at hs3);clear hu3;(try unfold got2);(try (have p3_0:w2.heap.size<w3.heap.size:=by omega));have R0:w3.cell? ⟨w.heap.size+1+1,0,none⟩=some (.int .u64 0):=(hc3 _ _ (by simp;omega)).trans (by simp [go_sem, *]);have R1:w3.cell? ⟨w.heap.size+1+1,1,none⟩=some (.int .u64 0):=(hc3 _ _ (by simp;omega)).trans (by simp [go_sem, *]);have S0:w3.cell? ⟨w.heap.size+1+1+1,0,none⟩=some (.int .u64 0):=(hc3 _ _ (by simp;omega)).trans (by simp [go_sem, *]);have S1:w3.cell? ⟨w.heap.size+1+1+1,1,none⟩=some (.int .u64 0):=(hc3 _ _ (by simp;omega)).trans (by simp [go_sem, *]);have ZA:w3.frozen? ⟨w.heap.size+1+1,0,none⟩=false:=(hz3 _).trans ((frozen?_alloc_cells _ _ _ _).trans za);have ZB:w3.frozen? ⟨w.heap.size+1+1,1,none⟩=false:=(hz3 _).trans ((frozen?_alloc_cells _ _ _ _).trans zb);have ZC:w3.frozen? ⟨w.heap.size+1+1+1,0,none⟩=false:=(hz3 _).trans ((frozen?_alloc_cells _ _ _ _).trans zc);have ZD:w3.frozen? ⟨w.heap.size+1+1+1,1,none⟩=false:=(hz3 _).trans ((frozen?_alloc_cells _ _ _ _).trans zd);clear hc3 hz3)
        )
    all_goals
      go_wp2_with fail
      refine bodyPost_ret (v:=.tuple #[.agg #[.int .u64 0,.int .u64 q],.agg #[.int .u64 (hiZ r),.int .u64 (loZ r)],.bool true]) (by simp [results,Tryz.results112,go_sem,R0,R1,S0,S1]) rfl ⟨?_,?_⟩
      · rw [Hq.out,Hr.out,HE.out.1,HE.out.2]
      · exact And.left (by assumption)

end Go.Proofs.YtafkoddgefcpnaaGreat
