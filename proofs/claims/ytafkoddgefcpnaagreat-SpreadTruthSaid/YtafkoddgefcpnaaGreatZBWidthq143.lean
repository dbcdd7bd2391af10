/- What magnitude and width of package bounds return. -/
import Derived.Test.YtafkoddgefcpnaaGreatRows
import Derived.Test.YtafkoddgefcpnaaGreatZBKeepq12
import Derived.Test.YtafkoddgefcpnaaGreatZBMathq140
namespace Go.Proofs.YtafkoddgefcpnaaGreat
open Go.RowKit

theorem bmag_any (a:Int) (ha:In a) (w:World) :
    Calls Tryz.prog 94 #[.int .i64 a] w fun e w'=>e=.returned (.int .u64 (a.natAbs:Int))∧w=w':=by
  obtain ⟨a1,a2⟩:=ha
  by_cases hn:a<0
  · have H:IntKind.u64.wrap (-IntKind.u64.wrap a)=(a.natAbs:Int):=by simp only [IntKind.wrap_u64];omega
    go_enter Tryz.func94,Tryz.ntmps94
    go_wp2
    go_ret
    exact ⟨rfl,rfl⟩
  · have H:IntKind.u64.wrap a=(a.natAbs:Int):=by simp only [IntKind.wrap_u64];omega
    go_enter Tryz.func94,Tryz.ntmps94
    go_wp2
    go_ret
    exact ⟨rfl,rfl⟩
/-- The width of an interval, over the product of the denominators. -/
def wdZ (n1 d1 n3 d3:Int):Int:=n3 * d1 - n1 * d3
theorem small_mul {n d:Int} (hn:In n) (h1:1≤d) (hd:In d):In2 ((n.natAbs:Int) * d)∧(n.natAbs:Int) * d≤85070591730234615856620279821087277056∧(0≤n→(n.natAbs:Int) * d=n * d)∧(n<0→(n.natAbs:Int) * d=-(n * d)):=by
  obtain ⟨a1,a2⟩:=hn;obtain ⟨b1,b2⟩:=hd
  have k0:0≤(n.natAbs:Int) * d:=Int.mul_nonneg (by omega) (by omega)
  have k1:(n.natAbs:Int) * d≤9223372036854775808 * d:=Int.mul_le_mul_of_nonneg_right (by omega) (by omega)
  refine ⟨⟨k0,by omega⟩,by omega,fun h=>?_,fun h=>?_⟩
  · rw [show (n.natAbs:Int)=n by omega]
  · rw [show (n.natAbs:Int)=-n by omega,Int.neg_mul]
/-- The ways of width. -/
theorem width_ways {n1 d1 n3 d3:Int} (h1:In n1) (g1:In d1) (h3:In n3) (g3:In d3) (p1:1≤d1) (p3:1≤d3) (le:n1 * d3≤n3 * d1) :
    In2 (wdZ n1 d1 n3 d3) ∧
    ((decide (n1 < 0) = true ∧ decide (n3 < 0) = false ∧ (n1.natAbs : Int) * d3 + (n3.natAbs : Int) * d1 = wdZ n1 d1 n3 d3) ∨
     (decide (n1<0)=true∧decide (n3<0)=true∧(n1.natAbs:Int) * d3 - (n3.natAbs:Int) * d1=wdZ n1 d1 n3 d3) ∨
     (decide (n1<0)=false∧decide (n3<0)=false∧(n3.natAbs:Int) * d1 - (n1.natAbs:Int) * d3=wdZ n1 d1 n3 d3)):=by
  obtain ⟨_,a2,a3,a4⟩:=small_mul h1 p3 g3
  obtain ⟨⟨b0,_⟩,b2,b3,b4⟩:=small_mul h3 p1 g1
  have a0:=(small_mul h1 p3 g3).1.1
  unfold wdZ In2
  by_cases s1:n1<0 <;> by_cases s3:n3<0
  · have e1:=a4 s1;have e3:=b4 s3
    exact ⟨by omega,Or.inr (Or.inl ⟨decide_eq_true s1,decide_eq_true s3,by omega⟩)⟩
  · have e1:=a4 s1;have e3:=b3 (by omega)
    exact ⟨by omega,Or.inl ⟨decide_eq_true s1,decide_eq_false s3,by omega⟩⟩
  · exfalso
    have k1:0≤n1 * d3:=Int.mul_nonneg (by omega) (by omega)
    have k2:n3 * d1<0:=Int.mul_neg_of_neg_of_pos (by omega) (by omega)
    omega
  · have e1:=a3 (by omega);have e3:=b3 (by omega)
    exact ⟨by omega,Or.inr (Or.inr ⟨decide_eq_false s1,decide_eq_false s3,by omega⟩)⟩

set_option maxHeartbeats 16000000 in
set_option maxRecDepth 100000 in
theorem width_up (n1 d1 n2 d2 n3 d3:Int) (in1:In n1) (id1:In d1) (in3:In n3) (id3:In d3) (p1:1≤d1) (p3:1≤d3) (le:n1 * d3≤n3 * d1) (w:World) :
    Calls Tryz.prog 59 #[.agg #[.int .i64 n1,.int .i64 d1,.int .i64 n2,.int .i64 d2,.int .i64 n3,.int .i64 d3]] w fun e w'=>e=.returned (.agg #[.int .u64 (hiZ (wdZ n1 d1 n3 d3)),.int .u64 (loZ (wdZ n1 d1 n3 d3))])∧Up w w':=by
  obtain ⟨iW,ways⟩:=width_ways in1 id1 in3 id3 p1 p3 le
  have M1:=Lib.hid (fun W=>bmag_any n1 in1 W)
  have M3:=Lib.hid (fun W=>bmag_any n3 in3 W)
  have P1:=Lib.hid (fun W=>product_up (n1.natAbs:Int) d3 (abs_word in1) (word_int p3 id3) W)
  have P3:=Lib.hid (fun W=>product_up (n3.natAbs:Int) d1 (abs_word in3) (word_int p1 id1) W)
  have ia:=(small_mul in1 p3 id3).1
  have ib:=(small_mul in3 p1 id1).1
  have e1:IntKind.u64.wrap d1=d1:=by rw [IntKind.wrap_u64];obtain ⟨_,d2⟩:=id1;omega
  have e3:IntKind.u64.wrap d3=d3:=by rw [IntKind.wrap_u64];obtain ⟨_,d2⟩:=id3;omega
  have HW:Hid (In2 (wdZ n1 d1 n3 d3)):=Lib.hid iW
  generalize wdZ n1 d1 n3 d3=V at *
  generalize (n1.natAbs:Int) * d3=a at *
  generalize (n3.natAbs:Int) * d1=b at *
  generalize (n1.natAbs:Int)=x1 at *
  generalize (n3.natAbs:Int)=x3 at *
  have IA:=Lib.hid ia
  have IB:=Lib.hid ib
  have WA:=Lib.hid ways
  clear p1 p3 le in1 id1 in3 id3 ia ib iW ways
  go_enter Tryz.func59,Tryz.ntmps59
  go_upto_region 1 with fail
  obtain ⟨LL,hLL⟩:∃ X:List (Nat × Nat × Value),X=[(w.heap.size,0,.int .i64 n1),(w.heap.size,1,.int .i64 d1),(w.heap.size,2,.int .i64 n2),(w.heap.size,3,.int .i64 d2),(w.heap.size,4,.int .i64 n3),(w.heap.size,5,.int .i64 d3),(w.heap.size+1,0,.int .u64 0),(w.heap.size+1,1,.int .u64 0)]:=⟨_,rfl⟩
  have HB:Hid (Bd w 1 LL ((w.alloc (.cells #[.int .i64 n1,.int .i64 d1,.int .i64 n2,.int .i64 d2,.int .i64 n3,.int .i64 d3] 33)).alloc (.cells #[.int .u64 0,.int .u64 0] 92))):=Lib.hid (by
    rw [hLL]
    refine ⟨?_,by simp [go_sem],by simp⟩
    repeat (first | exact Up.refl _ | refine Up.alloc ?_ _ _ | refine Up.setCell ?_ (by first | (simp;done) | (simp;omega) | omega) _ | refine Up.drewN ?_ _ | refine Up.drew ?_))
  have HLL:=Lib.hid hLL
  clear hLL
  have c0:((w.alloc (.cells #[.int .i64 n1,.int .i64 d1,.int .i64 n2,.int .i64 d2,.int .i64 n3,.int .i64 d3] 33)).alloc (.cells #[.int .u64 0,.int .u64 0] 92)).cell? ⟨w.heap.size,0,none⟩=some (.int .i64 n1):=by simp [go_sem]
  have c5:((w.alloc (.cells #[.int .i64 n1,.int .i64 d1,.int .i64 n2,.int .i64 d2,.int .i64 n3,.int .i64 d3] 33)).alloc (.cells #[.int .u64 0,.int .u64 0] 92)).cell? ⟨w.heap.size,5,none⟩=some (.int .i64 d3):=by simp [go_sem]
  generalize hw0:(w.alloc (.cells #[.int .i64 n1,.int .i64 d1,.int .i64 n2,.int .i64 d2,.int .i64 n3,.int .i64 d3] 33)).alloc (.cells #[.int .u64 0,.int .u64 0] 92)=w0 at *
  have hs0:w.heap.size+1+1=w0.heap.size:=by rw [← hw0];simp
  have l0:w.heap.size+1<w0.heap.size:=by omega
  clear hw0 hs0
  go_cut [3] (fun t wx=>∃ g:Nat,w.heap.size+(1)<g∧t=.pointer (some ⟨g,0,none⟩)∧wx.cell? ⟨g,0,none⟩=some (.int .u64 (hiZ a))∧wx.cell? ⟨g,1,none⟩=some (.int .u64 (loZ a))∧Bd w (1) LL wx)
  case first =>
    go_region_held3 (fun w'=>Bd w (1) LL w'∧w'.cell? ⟨w.heap.size,0,none⟩=some (.int .i64 n1)∧w'.cell? ⟨w.heap.size,5,none⟩=some (.int .i64 d3))
      (first | (with_reducible exact bkeep2 (by assumption) (by assumption)) | (repeat (first | (with_reducible assumption) | (with_reducible exact Hid.out (by assumption)) | (with_reducible exact ⟨HB.out,c0,c5⟩) | (with_reducible refine bkeep2 (Lib.hid ((Up.refl _).alloc _ _)) ?_) | (with_reducible refine bkeep2 (Lib.hid (Up.refl _).drew) ?_) | (with_reducible refine bset2 ?_ (by omega) (by omega) (by omega)))))
      (first
        | (go_at_call 94;(with_reducible refine (M1.out _).mono ?_);rintro e w' ⟨rfl,rfl⟩)
        | (go_at_call 56;(with_reducible refine (P1.out _).mono ?_);rintro e w1 ⟨rfl,hu1⟩;have HU1:=Lib.hid hu1;have HS1:=Lib.hid (bkeep2 HU1 (by assumption));obtain ⟨hc1,hz1⟩:=hu1.cells;have hs1:=hu1.size;(try simp at hs1);clear hu1;(try (have p1_0:w0.heap.size<w1.heap.size:=by omega))))
    all_goals
      go_wp2_with fail
      go_meet
      refine ⟨_,?_,rfl,?_,?_,And.left (by assumption)⟩
      · omega
      all_goals (first | (simp [go_sem, *];done))
  obtain ⟨g,lg,rfl,s0,s1,hB⟩:=hcut
  have lgc:g<wc.heap.size:=World.block_lt_of_cell? _ _ s0
  have hk:=hB.kp
  rw [HLL.out] at hk
  have c4:=hk (w.heap.size,4,.int .i64 n3) (by simp)
  have c1:=hk (w.heap.size,1,.int .i64 d1) (by simp)
  obtain ⟨MM,hMM⟩:∃ X:List (Nat × Nat × Value),X=(g,0,.int .u64 (hiZ a)) :: (g,1,.int .u64 (loZ a)) :: LL:=⟨_,rfl⟩
  have HB2:Hid (Bd w (g - w.heap.size) MM wc):=Lib.hid (by
    rw [hMM]
    refine ⟨hB.up,?_,?_⟩
    · intro x hx
      rcases List.mem_cons.1 hx with rfl | hx
      · exact s0
      rcases List.mem_cons.1 hx with rfl | hx
      · exact s1
      exact hB.kp x hx
    · intro x hx
      rcases List.mem_cons.1 hx with rfl | hx
      · show g≤_;omega
      rcases List.mem_cons.1 hx with rfl | hx
      · show g≤_;omega
      have:=hB.lt x hx;omega)
  have HMM:=Lib.hid hMM
  clear hMM hk hB HB c0 c5 s0 s1 l0
  go_upto_region 2 with fail
  go_cut [4] (fun t wx=>∃ k:Nat,w.heap.size+(g - w.heap.size)<k∧t=.pointer (some ⟨k,0,none⟩)∧wx.cell? ⟨k,0,none⟩=some (.int .u64 (hiZ b))∧wx.cell? ⟨k,1,none⟩=some (.int .u64 (loZ b))∧Bd w (g - w.heap.size) MM wx)
  case first =>
    go_region_held3 (fun w'=>Bd w (g - w.heap.size) MM w'∧w'.cell? ⟨w.heap.size,4,none⟩=some (.int .i64 n3)∧w'.cell? ⟨w.heap.size,1,none⟩=some (.int .i64 d1))
      (first | (with_reducible exact bkeep2 (by assumption) (by assumption)) | (repeat (first | (with_reducible assumption) | (with_reducible exact Hid.out (by assumption)) | (with_reducible exact ⟨HB2.out,c4,c1⟩) | (with_reducible refine bkeep2 (Lib.hid ((Up.refl _).alloc _ _)) ?_) | (with_reducible refine bkeep2 (Lib.hid (Up.refl _).drew) ?_) | (with_reducible refine bset2 ?_ (by omega) (by omega) (by omega)))))
      (first
        | (go_at_call 94;(with_reducible refine (M3.out _).mono ?_);rintro e w' ⟨rfl,rfl⟩)
        | (go_at_call 56;(with_reducible refine (P3.out _).mono ?_);rintro e w2 ⟨rfl,hu2⟩;have HU2:=Lib.hid hu2;have HS2:=Lib.hid (bkeep2 HU2 (by assumption));obtain ⟨hc2,hz2⟩:=hu2.cells;have hs2:=hu2.size;(try simp at hs2);clear hu2;(try (have p2_0:wc.heap.size<w2.heap.size:=by omega))))
    all_goals
      go_wp2_with fail
      go_meet
      refine ⟨_,?_,rfl,?_,?_,And.left (by assumption)⟩
      · omega
      all_goals (first | (simp [go_sem, *];done))
  obtain ⟨k,lk,rfl,t0,t1,hB⟩:=hcut
  have lkc:k<wc.heap.size:=World.block_lt_of_cell? _ _ t0
  have hgk:g<k:=by omega
  have hk:=hB.kp
  rw [HMM.out] at hk
  have s0:=hk (g,0,.int .u64 (hiZ a)) (by simp)
  have s1:=hk (g,1,.int .u64 (loZ a)) (by simp)
  rw [HLL.out] at hk
  have c0:=hk (w.heap.size,0,.int .i64 n1) (by simp)
  have c4:=hk (w.heap.size,4,.int .i64 n3) (by simp)
  have r0:=hk (w.heap.size+1,0,.int .u64 0) (by simp)
  have r1:=hk (w.heap.size+1,1,.int .u64 0) (by simp)
  have HUc:=Lib.hid hB.up
  have zg0:=HUc.out.ownGe (show w.heap.size≤g by omega) 0
  have zg1:=HUc.out.ownGe (show w.heap.size≤g by omega) 1
  have zk0:=HUc.out.ownGe (show w.heap.size≤k by omega) 0
  have zk1:=HUc.out.ownGe (show w.heap.size≤k by omega) 1
  have hg0:w.heap.size≤g:=by omega
  have hk0:w.heap.size≤k:=by omega
  have nk:¬ g=k:=by omega
  have nk':¬ k=g:=by omega
  have lr:w.heap.size+1<wc.heap.size:=World.block_lt_of_cell? _ _ r0
  have nr:¬ g=w.heap.size+1:=by omega
  have nr':¬ k=w.heap.size+1:=by omega
  clear hk hB HB2 HMM HLL MM LL lg lk
  rcases WA.out with ⟨u1,u3,e⟩ | ⟨u1,u3,e⟩ | ⟨u1,u3,e⟩
  · have HA:=Lib.hid (fun W=>add_v a b IA.out IB.out (by rw [e];exact HW.out) W)
    rw [e] at HA
    clear e
    go_wp2_with fail
    refine (HA.out _).mono ?_
    rintro e w5 ⟨rfl,hu5⟩
    unfold got2
    have r0':=hu5.keep (w.heap.size+1) 0 (.int .u64 0) (by simp [go_sem, *])
    have r1':=hu5.keep (w.heap.size+1) 1 (.int .u64 0) (by simp [go_sem, *])
    have lr':w.heap.size+1<w5.heap.size:=World.block_lt_of_cell? _ _ r0'
    have HU5:Hid (Up w w5):=Lib.hid (by ((repeat (first | (with_reducible exact Up.refl _) | (with_reducible exact HUc.out) | (with_reducible refine Up.trans ?_ hu5) | (with_reducible refine Up.alloc ?_ _ _) | (with_reducible refine Up.setCell ?_ ?_ _) | (with_reducible refine Up.drewN ?_ _) | (with_reducible refine Up.drew ?_)));all_goals (first | (simp;done) | (simp;omega) | omega)))
    have zr0:=own1 HU5.out 0
    have zr1:=own1 HU5.out 1
    have nr2:¬ w5.heap.size=w.heap.size+1:=by omega
    clear hu5
    go_wp2_with fail
    refine bodyPost_ret (v:=.agg #[.int .u64 (hiZ V),.int .u64 (loZ V)]) (by simp [results,Tryz.results59,go_sem,r0',r1',lr']) rfl ⟨?_,?_⟩
    · rfl
    · ((repeat (first | (with_reducible exact Up.refl _) | (with_reducible exact HU5.out) | (with_reducible refine Up.alloc ?_ _ _) | (with_reducible refine Up.setCell ?_ ?_ _) | (with_reducible refine Up.drewN ?_ _) | (with_reducible refine Up.drew ?_)));all_goals (first | (simp;done) | (simp;omega) | omega))
  · have HA:=Lib.hid (fun W=>sub_v a b IA.out IB.out (by rw [e];exact HW.out) W)
    rw [e] at HA
    clear e
    go_wp2_with fail
    refine (HA.out _).mono ?_
    rintro e w5 ⟨rfl,hu5⟩
    unfold got2
    have r0':=hu5.keep (w.heap.size+1) 0 (.int .u64 0) (by simp [go_sem, *])
    have r1':=hu5.keep (w.heap.size+1) 1 (.int .u64 0) (by simp [go_sem, *])
    have lr':w.heap.size+1<w5.heap.size:=World.block_lt_of_cell? _ _ r0'
    have HU5:Hid (Up w w5):=Lib.hid (by ((repeat (first | (with_reducible exact Up.refl _) | (with_reducible exact HUc.out) | (with_reducible refine Up.trans ?_ hu5) | (with_reducible refine Up.alloc ?_ _ _) | (with_reducible refine Up.setCell ?_ ?_ _) | (with_reducible refine Up.drewN ?_ _) | (with_reducible refine Up.drew ?_)));all_goals (first | (simp;done) | (simp;omega) | omega)))
    have zr0:=own1 HU5.out 0
    have zr1:=own1 HU5.out 1
    have nr2:¬ w5.heap.size=w.heap.size+1:=by omega
    clear hu5
    go_wp2_with fail
    refine bodyPost_ret (v:=.agg #[.int .u64 (hiZ V),.int .u64 (loZ V)]) (by simp [results,Tryz.results59,go_sem,r0',r1',lr']) rfl ⟨?_,?_⟩
    · rfl
    · ((repeat (first | (with_reducible exact Up.refl _) | (with_reducible exact HU5.out) | (with_reducible refine Up.alloc ?_ _ _) | (with_reducible refine Up.setCell ?_ ?_ _) | (with_reducible refine Up.drewN ?_ _) | (with_reducible refine Up.drew ?_)));all_goals (first | (simp;done) | (simp;omega) | omega))
  · have HA:=Lib.hid (fun W=>sub_v b a IB.out IA.out (by rw [e];exact HW.out) W)
    rw [e] at HA
    clear e
    go_wp2_with fail
    refine (HA.out _).mono ?_
    rintro e w5 ⟨rfl,hu5⟩
    unfold got2
    have r0':=hu5.keep (w.heap.size+1) 0 (.int .u64 0) (by simp [go_sem, *])
    have r1':=hu5.keep (w.heap.size+1) 1 (.int .u64 0) (by simp [go_sem, *])
    have lr':w.heap.size+1<w5.heap.size:=World.block_lt_of_cell? _ _ r0'
    have HU5:Hid (Up w w5):=Lib.hid (by ((repeat (first | (with_reducible exact Up.refl _) | (with_reducible exact HUc.out) | (with_reducible refine Up.trans ?_ hu5) | (with_reducible refine Up.alloc ?_ _ _) | (with_reducible refine Up.setCell ?_ ?_ _) | (with_reducible refine Up.drewN ?_ _) | (with_reducible refine Up.drew ?_)));all_goals (first | (simp;done) | (simp;omega) | omega)))
    have zr0:=own1 HU5.out 0
    have zr1:=own1 HU5.out 1
    have nr2:¬ w5.heap.size=w.heap.size+1:=by omega
    clear hu5
    go_wp2_with fail
    refine bodyPost_ret (v:=.agg #[.int .u64 (hiZ V),.int .u64 (loZ V)]) (by simp [results,Tryz.results59,go_sem,r0',r1',lr']) rfl ⟨?_,?_⟩
    · rfl
    · ((repeat (first | (with_reducible exact Up.refl _) | (with_reducible exact HU5.out) | (with_reducible refine Up.alloc ?_ _ _) | (with_reducible refine Up.setCell ?_ ?_ _) | (with_reducible refine Up.drewN ?_ _) | (with_reducible refine Up.drew ?_)));all_goals (first | (simp;done) | (simp;omega) | omega))

end Go.Proofs.YtafkoddgefcpnaaGreat
