/- Texts of these claims, one after the other. -/
import Derived.Test.YtafkoddgefcpnaaGreatRows
import Derived.Test.YtafkoddgefcpnaaGreatZWFormatq9
import Derived.Test.YtafkoddgefcpnaaGreatZWideq3
namespace Go.Proofs.YtafkoddgefcpnaaGreat
open Go.RowKit

theorem keep12 {w w1 w2:World} {b0 o0 b1 o1 b2 o2 b3 o3 b4 o4 b5 o5 b6 o6 b7 o7 b8 o8 b9 o9 b10 o10 b11 o11:Nat} {x0 x1 x2 x3 x4 x5 x6 x7 x8 x9 x10 x11:Value} (hu:Hid (Up w1 w2)) (h:Up w w1∧w1.cell? ⟨b0,o0,none⟩=some x0∧w1.cell? ⟨b1,o1,none⟩=some x1∧w1.cell? ⟨b2,o2,none⟩=some x2∧w1.cell? ⟨b3,o3,none⟩=some x3∧w1.cell? ⟨b4,o4,none⟩=some x4∧w1.cell? ⟨b5,o5,none⟩=some x5∧w1.cell? ⟨b6,o6,none⟩=some x6∧w1.cell? ⟨b7,o7,none⟩=some x7∧w1.cell? ⟨b8,o8,none⟩=some x8∧w1.cell? ⟨b9,o9,none⟩=some x9∧w1.cell? ⟨b10,o10,none⟩=some x10∧w1.cell? ⟨b11,o11,none⟩=some x11):Up w w2∧w2.cell? ⟨b0,o0,none⟩=some x0∧w2.cell? ⟨b1,o1,none⟩=some x1∧w2.cell? ⟨b2,o2,none⟩=some x2∧w2.cell? ⟨b3,o3,none⟩=some x3∧w2.cell? ⟨b4,o4,none⟩=some x4∧w2.cell? ⟨b5,o5,none⟩=some x5∧w2.cell? ⟨b6,o6,none⟩=some x6∧w2.cell? ⟨b7,o7,none⟩=some x7∧w2.cell? ⟨b8,o8,none⟩=some x8∧w2.cell? ⟨b9,o9,none⟩=some x9∧w2.cell? ⟨b10,o10,none⟩=some x10∧w2.cell? ⟨b11,o11,none⟩=some x11 :=
  ⟨h.1.trans hu.out,hu.out.keep _ _ _ h.2.1,hu.out.keep _ _ _ h.2.2.1,hu.out.keep _ _ _ h.2.2.2.1,hu.out.keep _ _ _ h.2.2.2.2.1,hu.out.keep _ _ _ h.2.2.2.2.2.1,hu.out.keep _ _ _ h.2.2.2.2.2.2.1,hu.out.keep _ _ _ h.2.2.2.2.2.2.2.1,hu.out.keep _ _ _ h.2.2.2.2.2.2.2.2.1,hu.out.keep _ _ _ h.2.2.2.2.2.2.2.2.2.1,hu.out.keep _ _ _ h.2.2.2.2.2.2.2.2.2.2.1,hu.out.keep _ _ _ h.2.2.2.2.2.2.2.2.2.2.2.1,hu.out.keep _ _ _ h.2.2.2.2.2.2.2.2.2.2.2.2⟩
end Go.Proofs.YtafkoddgefcpnaaGreat

namespace Go.Proofs.YtafkoddgefcpnaaGreat
open Go.RowKit

theorem Bd.far {w w1:World} {m g q:Nat} {v:Value} {L:List (Nat × Nat × Value)} (h:Bd w m L w1) (hg:w.heap.size+m<g):Bd w m L (w1.setCell ⟨g,q,none⟩ v) :=
  ⟨h.up.setCell (by show w.heap.size≤g;omega) _,fun x hx=>(cell_far (by have:=h.lt x hx;show g ≠ x.1;omega)).trans (h.kp x hx),h.lt⟩
theorem bkeep2 {w w1 w2:World} {m:Nat} {L:List (Nat × Nat × Value)} {b0 o0 b1 o1:Nat} {x0 x1:Value} (hu:Hid (Up w1 w2)) (h:Bd w m L w1∧w1.cell? ⟨b0,o0,none⟩=some x0∧w1.cell? ⟨b1,o1,none⟩=some x1):Bd w m L w2∧w2.cell? ⟨b0,o0,none⟩=some x0∧w2.cell? ⟨b1,o1,none⟩=some x1 :=
  ⟨h.1.keep hu.out,hu.out.keep _ _ _ h.2.1,hu.out.keep _ _ _ h.2.2⟩
theorem bset2 {w w1:World} {m:Nat} {L:List (Nat × Nat × Value)} {b0 o0 b1 o1:Nat} {x0 x1:Value} {g q:Nat} {v:Value} (h:Bd w m L w1∧w1.cell? ⟨b0,o0,none⟩=some x0∧w1.cell? ⟨b1,o1,none⟩=some x1) (hg:w.heap.size+m<g) (n0:g ≠ b0) (n1:g ≠ b1):Bd w m L (w1.setCell ⟨g,q,none⟩ v)∧(w1.setCell ⟨g,q,none⟩ v).cell? ⟨b0,o0,none⟩=some x0∧(w1.setCell ⟨g,q,none⟩ v).cell? ⟨b1,o1,none⟩=some x1 :=
  ⟨h.1.far hg,(cell_far n0).trans h.2.1,(cell_far n1).trans h.2.2⟩
end Go.Proofs.YtafkoddgefcpnaaGreat

namespace Go.Proofs.YtafkoddgefcpnaaGreat
open Go.RowKit

theorem eqWords (a0 a1 a2 a3 b0 b1 b2 b3:Int) (w:World):(Op.equalIn 10000 96 (.agg #[.int .u64 a0,.int .u64 a1,.int .u64 a2,.int .u64 a3]) (.agg #[.int .u64 b0,.int .u64 b1,.int .u64 b2,.int .u64 b3])).run Tryz.prog w =
    .ok (a0 == b0 && (a1 == b1 && (a2 == b2 && a3 == b3))) w:=by
  have qu:=Tryz.underlying90
  have qa:=Tryz.isAgg90
  have qz:=Tryz.sizeOf90
  rw [show (10000:Nat)=9999+1 from rfl,Op.equalIn]
  simp only [Sem.run_bind,run_underlying Tryz.underlying96,Result.andThen_ok]
  simp only [Std.Legacy.Range.forIn_eq_forIn_range',Std.Legacy.Range.size,Nat.sub_zero,Nat.add_sub_cancel,Nat.div_one,List.range'_succ,List.range'_zero,List.forIn_cons,List.forIn_nil]
  go_simp
  by_cases h0:a0=b0 <;> by_cases h1:a1=b1 <;> by_cases h2:a2=b2 <;> by_cases h3:a3=b3 <;> simp [h0,h1,h2,h3]

/-- Where the words differ first, from the greatest on. -/
theorem differ {a0 a1 a2 a3 b0 b1 b2 b3:Int}:(a0=b0∧a1=b1∧a2=b2∧a3=b3)∨¬ (a0=b0∧a1=b1∧a2=b2∧a3=b3):=by omega

set_option maxHeartbeats 4000000 in
set_option maxRecDepth 100000 in
theorem atMost_up (a0 a1 a2 a3 b0 b1 b2 b3:Int) (p0:Word a0) (p1:Word a1) (p2:Word a2) (p3:Word a3) (q0:Word b0) (q1:Word b1) (q2:Word b2) (q3:Word b3) (w:World) :
    Calls Tryz.prog 57 #[.agg #[.int .u64 a0,.int .u64 a1,.int .u64 a2,.int .u64 a3],.agg #[.int .u64 b0,.int .u64 b1,.int .u64 b2,.int .u64 b3]] w fun e w' =>
      e=.returned (.bool (decide (W4 a0 a1 a2 a3≤W4 b0 b1 b2 b3)))∧Up w w':=by
  rcases differ (a0:=a0) (a1:=a1) (a2:=a2) (a3:=a3) (b0:=b0) (b1:=b1) (b2:=b2) (b3:=b3) with ⟨rfl,rfl,rfl,rfl⟩ | hd
  · rw [W4_eq]
    clear p0 p1 p2 p3 q0 q1 q2 q3
    go_enter Tryz.func57,Tryz.ntmps57
    go_wp2_with fail
    simp only [eqWords]
    go_simp
    go_wp2_with fail
    go_ret
    refine ⟨rfl,?_⟩
    repeat (first | exact Up.refl _ | refine Up.alloc ?_ _ _ | refine Up.setCell ?_ (by first | (simp;done) | (simp;omega) | omega) _ | refine Up.drewN ?_ _ | refine Up.drew ?_)
  · obtain ⟨k3,k2,k1,k0⟩:=W4_le p0 p1 p2 p3 q0 q1 q2 q3
    have K3:=Lib.hid k3
    have K2:=Lib.hid k2
    have K1:=Lib.hid k1
    have K0:=Lib.hid k0
    have HD:=Lib.hid hd
    have HT:=Lib.hid (show (a0 == b0 && (a1 == b1 && (a2 == b2 && a3 == b3)))=false by
      rw [Bool.eq_false_iff];intro h;simp only [Bool.and_eq_true,beq_iff_eq] at h;exact hd ⟨h.1,h.2.1,h.2.2.1,h.2.2.2⟩)
    generalize decide (W4 a0 a1 a2 a3≤W4 b0 b1 b2 b3)=r at *
    clear p0 p1 p2 p3 q0 q1 q2 q3 k0 k1 k2 k3 hd
    go_enter Tryz.func57,Tryz.ntmps57
    go_wp2_with fail
    simp only [eqWords,HT.out]
    go_simp
    go_wp2_with fail
    go_loopg [5] 3 (fun k u wr=>Am w wr a0 a1 a2 a3 b0 b1 b2 b3∧((k=3∧u=.int .i64 3)∨(k=2∧u=.int .i64 2∧Hid (a3=b3))∨(k=1∧u=.int .i64 1∧Hid (a3=b3∧a2=b2))∨(k=0∧u=.int .i64 0∧Hid (a3=b3∧a2=b2∧a1=b1))))
    case atStart =>
      refine ⟨⟨?_,by simp [go_sem],by simp [go_sem],by simp [go_sem],by simp [go_sem],by simp [go_sem],by simp [go_sem],by simp [go_sem],by simp [go_sem]⟩,Or.inl ⟨rfl,rfl⟩⟩
      repeat (first | exact Up.refl _ | refine Up.alloc ?_ _ _ | refine Up.setCell ?_ (by first | (simp;done) | (simp;omega) | omega) _ | refine Up.drewN ?_ _ | refine Up.drew ?_)
    case round =>
      obtain ⟨hA,hk⟩:=hrel
      have HA:=Lib.hid hA
      have x0:=hA.x0
      have x1:=hA.x1
      have x2:=hA.x2
      have x3:=hA.x3
      have y0:=hA.y0
      have y1:=hA.y1
      have y2:=hA.y2
      have y3:=hA.y3
      clear hA
      rcases hk with ⟨rfl,rfl⟩ | ⟨rfl,rfl,HE⟩ | ⟨rfl,rfl,HE⟩ | ⟨rfl,rfl,HE⟩
      · by_cases h:a3=b3
        · have HH:=Lib.hid h
          have t:(a3 == b3)=true:=beq_iff_eq.2 h
          clear h
          go_wp2_with fail
          go_region
          all_goals
            go_wp2_with fail
            go_roundg 2
            case measure=>omega
            case rel =>
              refine ⟨HA.out.keep ?_,Or.inr (Or.inl ⟨rfl,rfl,HH⟩)⟩
              repeat (first | exact Up.refl _ | refine Up.alloc ?_ _ _ | refine Up.setCell ?_ (by first | (simp;done) | (simp;omega) | omega) _ | refine Up.drewN ?_ _ | refine Up.drew ?_)
        · have HR:=Lib.hid (K3.out h)
          have t:(a3 == b3)=false:=beq_eq_false_iff_ne.2 h
          clear h
          go_wp2_with fail
          go_region
          all_goals
            go_wp2_with fail
            go_region
            all_goals
              go_wp2_with fail
              go_ret
              refine ⟨by rw [HR.out];rfl,HA.out.up.trans ?_⟩
              repeat (first | exact Up.refl _ | refine Up.alloc ?_ _ _ | refine Up.setCell ?_ (by first | (simp;done) | (simp;omega) | omega) _ | refine Up.drewN ?_ _ | refine Up.drew ?_)
      · by_cases h:a2=b2
        · have HH:=Lib.hid h
          have t:(a2 == b2)=true:=beq_iff_eq.2 h
          clear h
          go_wp2_with fail
          go_region
          all_goals
            go_wp2_with fail
            go_roundg 1
            case measure=>omega
            case rel =>
              refine ⟨HA.out.keep ?_,Or.inr (Or.inr (Or.inl ⟨rfl,rfl,Lib.hid ⟨HE.out,HH.out⟩⟩))⟩
              repeat (first | exact Up.refl _ | refine Up.alloc ?_ _ _ | refine Up.setCell ?_ (by first | (simp;done) | (simp;omega) | omega) _ | refine Up.drewN ?_ _ | refine Up.drew ?_)
        · have HR:=Lib.hid (K2.out HE.out h)
          have t:(a2 == b2)=false:=beq_eq_false_iff_ne.2 h
          clear h
          go_wp2_with fail
          go_region
          all_goals
            go_wp2_with fail
            go_region
            all_goals
              go_wp2_with fail
              go_ret
              refine ⟨by rw [HR.out];rfl,HA.out.up.trans ?_⟩
              repeat (first | exact Up.refl _ | refine Up.alloc ?_ _ _ | refine Up.setCell ?_ (by first | (simp;done) | (simp;omega) | omega) _ | refine Up.drewN ?_ _ | refine Up.drew ?_)
      · by_cases h:a1=b1
        · have HH:=Lib.hid h
          have t:(a1 == b1)=true:=beq_iff_eq.2 h
          clear h
          go_wp2_with fail
          go_region
          all_goals
            go_wp2_with fail
            go_roundg 0
            case measure=>omega
            case rel =>
              refine ⟨HA.out.keep ?_,Or.inr (Or.inr (Or.inr ⟨rfl,rfl,Lib.hid ⟨HE.out.1,HE.out.2,HH.out⟩⟩))⟩
              repeat (first | exact Up.refl _ | refine Up.alloc ?_ _ _ | refine Up.setCell ?_ (by first | (simp;done) | (simp;omega) | omega) _ | refine Up.drewN ?_ _ | refine Up.drew ?_)
        · have HR:=Lib.hid (K1.out HE.out.1 HE.out.2 h)
          have t:(a1 == b1)=false:=beq_eq_false_iff_ne.2 h
          clear h
          go_wp2_with fail
          go_region
          all_goals
            go_wp2_with fail
            go_region
            all_goals
              go_wp2_with fail
              go_ret
              refine ⟨by rw [HR.out];rfl,HA.out.up.trans ?_⟩
              repeat (first | exact Up.refl _ | refine Up.alloc ?_ _ _ | refine Up.setCell ?_ (by first | (simp;done) | (simp;omega) | omega) _ | refine Up.drewN ?_ _ | refine Up.drew ?_)
      · have h:¬ a0=b0:=fun h=>HD.out ⟨h,HE.out.2.2,HE.out.2.1,HE.out.1⟩
        have HR:=Lib.hid (K0.out HE.out.1 HE.out.2.1 HE.out.2.2 h)
        have t:(a0 == b0)=false:=beq_eq_false_iff_ne.2 h
        clear h
        go_wp2_with fail
        go_region
        all_goals
          go_wp2_with fail
          go_region
          all_goals
            go_wp2_with fail
            go_ret
            refine ⟨by rw [HR.out];rfl,HA.out.up.trans ?_⟩
            repeat (first | exact Up.refl _ | refine Up.alloc ?_ _ _ | refine Up.setCell ?_ (by first | (simp;done) | (simp;omega) | omega) _ | refine Up.drewN ?_ _ | refine Up.drew ?_)

/-- The same, of the words of two numbers. -/
theorem atMost_v (x y:Int) (hx:In4 x) (hy:In4 y) (w:World) :
    Calls Tryz.prog 57 #[.agg #[.int .u64 (g0 x),.int .u64 (g1 x),.int .u64 (g2 x),.int .u64 (g3 x)],.agg #[.int .u64 (g0 y),.int .u64 (g1 y),.int .u64 (g2 y),.int .u64 (g3 y)]] w fun e w' =>
      e=.returned (.bool (decide (x≤y)))∧Up w w':=by
  have h:=atMost_up _ _ _ _ _ _ _ _ (g0_word x) (g1_word x) (g2_word x) (g3_word x) (g0_word y) (g1_word y) (g2_word y) (g3_word y) w
  rw [W4_g hx,W4_g hy] at h
  exact h
end Go.Proofs.YtafkoddgefcpnaaGreat
