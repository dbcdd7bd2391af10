/- Package marks: Add, with one rule. -/
import Derived.Test.YtafkoddgefcpnaaGreatRows
import Derived.Test.YtafkoddgefcpnaaGreatZKFnq94
namespace Go.Proofs.YtafkoddgefcpnaaGreat
open Go.RowKit
set_option linter.unusedVariables false

set_option maxHeartbeats 4000000 in
set_option maxRecDepth 100000 in
theorem maddS_full (b1:Nat) (g v q c now seq d:Int) (n k:Nat) (A:Option Addr) (X:List Mrk) (hn:n≤50000) (hg:1≤g∧g≤4) (hd:valG g d) (hf:fuM c seq X=true) (w:World) (hS:SG cM w A n X) :
    Calls Tryz.prog 31 #[.agg #[.int .i64 g,.int .i64 v,.int .i64 q,.int .i64 c,.int .i64 now,.int .i64 seq,.slice A n k],.int .i64 d,.func (.func 69) #[] #[.pointer (some ⟨b1,0,none⟩)]] w fun e w'=>e=.returned (.tuple #[.agg #[.int .i64 0,.int .i64 0,.int .i64 0,.int .i64 0,.int .i64 0,.int .i64 0,.slice none 0 0],.int .i64 5])∧Up w w':=by
  have HS:=Lib.hid hS
  have KI:=Lib.hid (isValueG_any d g hg)
  rw [decide_eq_true hd] at KI
  have HF:Hid (0<n∧(X.getD 0 mk0).n=c∨seq=1099511627776):=Lib.hid (by
    unfold fuM at hf
    rw [hS.1,Bool.or_eq_true,Bool.and_eq_true,decide_eq_true_eq,decide_eq_true_eq,decide_eq_true_eq] at hf
    exact hf)
  clear hS hd hf hg
  by_cases h0:0<n
  · have f20:(0:Int)<n:=by omega
    obtain ⟨b,o,rfl,_⟩:=mrk_at HS.out mk0 h0
    have HT:=Lib.hid (fun W (h:Up w W)=>(mrk_prev (HS.out.up h) h0).2.2.1)
    simp only [Nat.zero_mul,Nat.add_zero] at HT
    generalize (X.getD 0 mk0).n=x0 at *
    by_cases hc:x0=c
    · subst hc
      clear HF
      go_enter Tryz.func31,Tryz.ntmps31
      go_upto_region 3 with (go_at_call 66;(with_reducible refine (KI.out _).mono ?_);rintro e w2 ⟨rfl,rfl⟩)
      refine (show ∀ w1:World,w1=_→Code.wp _ _ _ _ w1 from fun w1 hw1=>?_) _ rfl
      have HU1:Hid (Up w w1):=Lib.hid (by rw [hw1];exact ((Up.refl w).alloc _ _).alloc _ _)
      have c00:w1.cell? ⟨w.heap.size,0,none⟩=some (.int .i64 g):=by rw [hw1];simp [go_sem]
      have c01:w1.cell? ⟨w.heap.size,1,none⟩=some (.int .i64 v):=by rw [hw1];simp [go_sem]
      have c02:w1.cell? ⟨w.heap.size,2,none⟩=some (.int .i64 q):=by rw [hw1];simp [go_sem]
      have c03:w1.cell? ⟨w.heap.size,3,none⟩=some (.int .i64 x0):=by rw [hw1];simp [go_sem]
      have c04:w1.cell? ⟨w.heap.size,4,none⟩=some (.int .i64 now):=by rw [hw1];simp [go_sem]
      have c05:w1.cell? ⟨w.heap.size,5,none⟩=some (.int .i64 seq):=by rw [hw1];simp [go_sem]
      have c06:w1.cell? ⟨w.heap.size,6,none⟩=some (.slice (some ⟨b,o,none⟩) n k):=by rw [hw1];simp [go_sem]
      have c10:w1.cell? ⟨w.heap.size+1,0,none⟩=some (.int .i64 0):=by rw [hw1];simp [go_sem]
      have c11:w1.cell? ⟨w.heap.size+1,1,none⟩=some (.int .i64 0):=by rw [hw1];simp [go_sem]
      have c12:w1.cell? ⟨w.heap.size+1,2,none⟩=some (.int .i64 0):=by rw [hw1];simp [go_sem]
      have c13:w1.cell? ⟨w.heap.size+1,3,none⟩=some (.int .i64 0):=by rw [hw1];simp [go_sem]
      have c14:w1.cell? ⟨w.heap.size+1,4,none⟩=some (.int .i64 0):=by rw [hw1];simp [go_sem]
      have c15:w1.cell? ⟨w.heap.size+1,5,none⟩=some (.int .i64 0):=by rw [hw1];simp [go_sem]
      have c16:w1.cell? ⟨w.heap.size+1,6,none⟩=some (.slice none 0 0):=by rw [hw1];simp [go_sem]
      have z00:=HU1.out.ownGe (g:=w.heap.size) (Nat.le_refl _) 0
      have z01:=HU1.out.ownGe (g:=w.heap.size) (Nat.le_refl _) 1
      have z02:=HU1.out.ownGe (g:=w.heap.size) (Nat.le_refl _) 2
      have z03:=HU1.out.ownGe (g:=w.heap.size) (Nat.le_refl _) 3
      have z04:=HU1.out.ownGe (g:=w.heap.size) (Nat.le_refl _) 4
      have z05:=HU1.out.ownGe (g:=w.heap.size) (Nat.le_refl _) 5
      have z06:=HU1.out.ownGe (g:=w.heap.size) (Nat.le_refl _) 6
      have z10:=HU1.out.ownGe (g:=w.heap.size+1) (by omega) 0
      have z11:=HU1.out.ownGe (g:=w.heap.size+1) (by omega) 1
      have z12:=HU1.out.ownGe (g:=w.heap.size+1) (by omega) 2
      have z13:=HU1.out.ownGe (g:=w.heap.size+1) (by omega) 3
      have z14:=HU1.out.ownGe (g:=w.heap.size+1) (by omega) 4
      have z15:=HU1.out.ownGe (g:=w.heap.size+1) (by omega) 5
      have z16:=HU1.out.ownGe (g:=w.heap.size+1) (by omega) 6
      have hlt:w.heap.size+1<w1.heap.size:=World.block_lt_of_cell? _ _ c10
      have hlt0:w.heap.size<w1.heap.size:=Nat.lt_of_succ_lt hlt
      clear hw1
      have hd2:=HT.out _ HU1.out
      have HSS:Hid (Up w w1∧w1.cell? ⟨w.heap.size,0,none⟩=some (.int .i64 g)∧w1.cell? ⟨w.heap.size,1,none⟩=some (.int .i64 v)∧w1.cell? ⟨w.heap.size,2,none⟩=some (.int .i64 q)∧w1.cell? ⟨w.heap.size,3,none⟩=some (.int .i64 x0)∧w1.cell? ⟨w.heap.size,4,none⟩=some (.int .i64 now)∧w1.cell? ⟨w.heap.size,5,none⟩=some (.int .i64 seq)∧w1.cell? ⟨w.heap.size,6,none⟩=some (.slice (some ⟨b,o,none⟩) n k)∧w1.cell? ⟨(w.heap.size+1),0,none⟩=some (.int .i64 0)∧w1.cell? ⟨(w.heap.size+1),1,none⟩=some (.int .i64 0)∧w1.cell? ⟨(w.heap.size+1),2,none⟩=some (.int .i64 0)∧w1.cell? ⟨(w.heap.size+1),3,none⟩=some (.int .i64 0)∧w1.cell? ⟨(w.heap.size+1),4,none⟩=some (.int .i64 0)∧w1.cell? ⟨(w.heap.size+1),5,none⟩=some (.int .i64 0)∧w1.cell? ⟨(w.heap.size+1),6,none⟩=some (.slice none 0 0)∧w1.cell? ⟨b,o+2,none⟩=some (.int .i64 x0)):=Lib.hid ⟨HU1.out,c00,c01,c02,c03,c04,c05,c06,c10,c11,c12,c13,c14,c15,c16,hd2⟩
      clear hd2 HT
      go_wp2_with fail
      refine wp_region_held_drew (S:=fun w'=>Up w w'∧w'.cell? ⟨w.heap.size,0,none⟩=some (.int .i64 g)∧w'.cell? ⟨w.heap.size,1,none⟩=some (.int .i64 v)∧w'.cell? ⟨w.heap.size,2,none⟩=some (.int .i64 q)∧w'.cell? ⟨w.heap.size,3,none⟩=some (.int .i64 x0)∧w'.cell? ⟨w.heap.size,4,none⟩=some (.int .i64 now)∧w'.cell? ⟨w.heap.size,5,none⟩=some (.int .i64 seq)∧w'.cell? ⟨w.heap.size,6,none⟩=some (.slice (some ⟨b,o,none⟩) n k)∧w'.cell? ⟨(w.heap.size+1),0,none⟩=some (.int .i64 0)∧w'.cell? ⟨(w.heap.size+1),1,none⟩=some (.int .i64 0)∧w'.cell? ⟨(w.heap.size+1),2,none⟩=some (.int .i64 0)∧w'.cell? ⟨(w.heap.size+1),3,none⟩=some (.int .i64 0)∧w'.cell? ⟨(w.heap.size+1),4,none⟩=some (.int .i64 0)∧w'.cell? ⟨(w.heap.size+1),5,none⟩=some (.int .i64 0)∧w'.cell? ⟨(w.heap.size+1),6,none⟩=some (.slice none 0 0)∧w'.cell? ⟨b,o+2,none⟩=some (.int .i64 x0)) (by kernel_rfl) ?hB309 (fun hHeld=>?_)
      case hB309=>(first | (with_reducible assumption) | (with_reducible exact keepK15 (Lib.hid (Up.refl _).drew) HSS.out))
      refine takeT 0 rfl (by assumption) ?_
      (try simp only [Act.put,stpA,stpB,stpC])
      refine takeT 1 rfl (by assumption) ?_
      (try simp only [Act.put,stpA,stpB,stpC])
      refine takeT 2 rfl (by assumption) ?_
      (try simp only [Act.put,stpA,stpB,stpC])
      refine takeT 3 rfl (by assumption) ?_
      (try simp only [Act.put,stpA,stpB,stpC])
      refine takeT 4 rfl (by assumption) ?_
      (try simp only [Act.put,stpA,stpB,stpC])
      refine takeT 5 rfl (by assumption) ?_
      (try simp only [Act.put,stpA,stpB,stpC])
      refine takeT 6 rfl (by assumption) ?_
      (try simp only [Act.put,stpA,stpB,stpC])
      refine takeT 7 rfl (by assumption) ?_
      (try simp only [Act.put,stpA,stpB,stpC])
      refine takeT 8 rfl (by assumption) ?_
      (try simp only [Act.put,stpA,stpB,stpC])
      refine takeT 9 rfl (by assumption) ?_
      (try simp only [Act.put,stpA,stpB,stpC])
      refine takeT 10 rfl (by assumption) ?_
      (try simp only [Act.put,stpA,stpB,stpC])
      refine takeT 11 rfl (by assumption) ?_
      (try simp only [Act.put,stpA,stpB,stpC])
      refine takeT 12 rfl (by assumption) ?_
      (try simp only [Act.put,stpA,stpB,stpC])
      refine takeT 13 rfl (by assumption) ?_
      (try simp only [Act.put,stpA,stpB,stpC])
      refine takeT 14 rfl (by assumption) ?_
      (try simp only [Act.put,stpA,stpB,stpC])
      refine takeU 15 rfl (by assumption) ?_
      (try simp only [Act.put,stpA,stpB,stpC])
      refine takeU 16 rfl (by assumption) ?_
      (try simp only [Act.put,stpA,stpB,stpC])
      refine takeU 17 rfl (by assumption) ?_
      (try simp only [Act.put,stpA,stpB,stpC])
      refine takeT 18 rfl (by assumption) ?_
      (try simp only [Act.put,stpA,stpB,stpC])
      refine wpAnyH_done (by kernel_rfl) ?_ _
      (try clear hHeld)
      (repeat clear ‹Up w _∧_›)
      go_wp2_with fail
      refine bodyPost_ret (v:=.tuple #[.agg #[.int .i64 0,.int .i64 0,.int .i64 0,.int .i64 0,.int .i64 0,.int .i64 0,.slice none 0 0],.int .i64 5]) (by simp [results,Tryz.results31,go_sem,c10,c11,c12,c13,c14,c15,c16]) rfl ⟨rfl,?_⟩
      exact (HU1.out.set7 (by omega)).drew
    · obtain rfl:seq=1099511627776:=HF.out.elim (fun h=>absurd h.2 hc) id
      have t1:(x0 == c)=false:=beq_eq_false_iff_ne.2 hc
      clear HF hc
      go_enter Tryz.func31,Tryz.ntmps31
      go_upto_region 3 with (go_at_call 66;(with_reducible refine (KI.out _).mono ?_);rintro e w2 ⟨rfl,rfl⟩)
      refine (show ∀ w1:World,w1=_→Code.wp _ _ _ _ w1 from fun w1 hw1=>?_) _ rfl
      have HU1:Hid (Up w w1):=Lib.hid (by rw [hw1];exact ((Up.refl w).alloc _ _).alloc _ _)
      have c00:w1.cell? ⟨w.heap.size,0,none⟩=some (.int .i64 g):=by rw [hw1];simp [go_sem]
      have c01:w1.cell? ⟨w.heap.size,1,none⟩=some (.int .i64 v):=by rw [hw1];simp [go_sem]
      have c02:w1.cell? ⟨w.heap.size,2,none⟩=some (.int .i64 q):=by rw [hw1];simp [go_sem]
      have c03:w1.cell? ⟨w.heap.size,3,none⟩=some (.int .i64 c):=by rw [hw1];simp [go_sem]
      have c04:w1.cell? ⟨w.heap.size,4,none⟩=some (.int .i64 now):=by rw [hw1];simp [go_sem]
      have c05:w1.cell? ⟨w.heap.size,5,none⟩=some (.int .i64 1099511627776):=by rw [hw1];simp [go_sem]
      have c06:w1.cell? ⟨w.heap.size,6,none⟩=some (.slice (some ⟨b,o,none⟩) n k):=by rw [hw1];simp [go_sem]
      have c10:w1.cell? ⟨w.heap.size+1,0,none⟩=some (.int .i64 0):=by rw [hw1];simp [go_sem]
      have c11:w1.cell? ⟨w.heap.size+1,1,none⟩=some (.int .i64 0):=by rw [hw1];simp [go_sem]
      have c12:w1.cell? ⟨w.heap.size+1,2,none⟩=some (.int .i64 0):=by rw [hw1];simp [go_sem]
      have c13:w1.cell? ⟨w.heap.size+1,3,none⟩=some (.int .i64 0):=by rw [hw1];simp [go_sem]
      have c14:w1.cell? ⟨w.heap.size+1,4,none⟩=some (.int .i64 0):=by rw [hw1];simp [go_sem]
      have c15:w1.cell? ⟨w.heap.size+1,5,none⟩=some (.int .i64 0):=by rw [hw1];simp [go_sem]
      have c16:w1.cell? ⟨w.heap.size+1,6,none⟩=some (.slice none 0 0):=by rw [hw1];simp [go_sem]
      have z00:=HU1.out.ownGe (g:=w.heap.size) (Nat.le_refl _) 0
      have z01:=HU1.out.ownGe (g:=w.heap.size) (Nat.le_refl _) 1
      have z02:=HU1.out.ownGe (g:=w.heap.size) (Nat.le_refl _) 2
      have z03:=HU1.out.ownGe (g:=w.heap.size) (Nat.le_refl _) 3
      have z04:=HU1.out.ownGe (g:=w.heap.size) (Nat.le_refl _) 4
      have z05:=HU1.out.ownGe (g:=w.heap.size) (Nat.le_refl _) 5
      have z06:=HU1.out.ownGe (g:=w.heap.size) (Nat.le_refl _) 6
      have z10:=HU1.out.ownGe (g:=w.heap.size+1) (by omega) 0
      have z11:=HU1.out.ownGe (g:=w.heap.size+1) (by omega) 1
      have z12:=HU1.out.ownGe (g:=w.heap.size+1) (by omega) 2
      have z13:=HU1.out.ownGe (g:=w.heap.size+1) (by omega) 3
      have z14:=HU1.out.ownGe (g:=w.heap.size+1) (by omega) 4
      have z15:=HU1.out.ownGe (g:=w.heap.size+1) (by omega) 5
      have z16:=HU1.out.ownGe (g:=w.heap.size+1) (by omega) 6
      have hlt:w.heap.size+1<w1.heap.size:=World.block_lt_of_cell? _ _ c10
      have hlt0:w.heap.size<w1.heap.size:=Nat.lt_of_succ_lt hlt
      clear hw1
      have hd2:=HT.out _ HU1.out
      have HSS:Hid (Up w w1∧w1.cell? ⟨w.heap.size,0,none⟩=some (.int .i64 g)∧w1.cell? ⟨w.heap.size,1,none⟩=some (.int .i64 v)∧w1.cell? ⟨w.heap.size,2,none⟩=some (.int .i64 q)∧w1.cell? ⟨w.heap.size,3,none⟩=some (.int .i64 c)∧w1.cell? ⟨w.heap.size,4,none⟩=some (.int .i64 now)∧w1.cell? ⟨w.heap.size,5,none⟩=some (.int .i64 1099511627776)∧w1.cell? ⟨w.heap.size,6,none⟩=some (.slice (some ⟨b,o,none⟩) n k)∧w1.cell? ⟨(w.heap.size+1),0,none⟩=some (.int .i64 0)∧w1.cell? ⟨(w.heap.size+1),1,none⟩=some (.int .i64 0)∧w1.cell? ⟨(w.heap.size+1),2,none⟩=some (.int .i64 0)∧w1.cell? ⟨(w.heap.size+1),3,none⟩=some (.int .i64 0)∧w1.cell? ⟨(w.heap.size+1),4,none⟩=some (.int .i64 0)∧w1.cell? ⟨(w.heap.size+1),5,none⟩=some (.int .i64 0)∧w1.cell? ⟨(w.heap.size+1),6,none⟩=some (.slice none 0 0)∧w1.cell? ⟨b,o+2,none⟩=some (.int .i64 x0)):=Lib.hid ⟨HU1.out,c00,c01,c02,c03,c04,c05,c06,c10,c11,c12,c13,c14,c15,c16,hd2⟩
      clear hd2 HT
      go_wp2_with fail
      refine wp_region_held_drew (S:=fun w'=>Up w w'∧w'.cell? ⟨w.heap.size,0,none⟩=some (.int .i64 g)∧w'.cell? ⟨w.heap.size,1,none⟩=some (.int .i64 v)∧w'.cell? ⟨w.heap.size,2,none⟩=some (.int .i64 q)∧w'.cell? ⟨w.heap.size,3,none⟩=some (.int .i64 c)∧w'.cell? ⟨w.heap.size,4,none⟩=some (.int .i64 now)∧w'.cell? ⟨w.heap.size,5,none⟩=some (.int .i64 1099511627776)∧w'.cell? ⟨w.heap.size,6,none⟩=some (.slice (some ⟨b,o,none⟩) n k)∧w'.cell? ⟨(w.heap.size+1),0,none⟩=some (.int .i64 0)∧w'.cell? ⟨(w.heap.size+1),1,none⟩=some (.int .i64 0)∧w'.cell? ⟨(w.heap.size+1),2,none⟩=some (.int .i64 0)∧w'.cell? ⟨(w.heap.size+1),3,none⟩=some (.int .i64 0)∧w'.cell? ⟨(w.heap.size+1),4,none⟩=some (.int .i64 0)∧w'.cell? ⟨(w.heap.size+1),5,none⟩=some (.int .i64 0)∧w'.cell? ⟨(w.heap.size+1),6,none⟩=some (.slice none 0 0)∧w'.cell? ⟨b,o+2,none⟩=some (.int .i64 x0)) (by kernel_rfl) ?hB326 (fun hHeld=>?_)
      case hB326=>(first | (with_reducible assumption) | (with_reducible exact keepK15 (Lib.hid (Up.refl _).drew) HSS.out))
      refine takeT 0 rfl (by assumption) ?_
      (try simp only [Act.put,stpA,stpB,stpC])
      refine takeT 1 rfl (by assumption) ?_
      (try simp only [Act.put,stpA,stpB,stpC])
      refine takeT 2 rfl (by assumption) ?_
      (try simp only [Act.put,stpA,stpB,stpC])
      refine takeT 3 rfl (by assumption) ?_
      (try simp only [Act.put,stpA,stpB,stpC])
      refine takeT 4 rfl (by assumption) ?_
      (try simp only [Act.put,stpA,stpB,stpC])
      refine takeT 5 rfl (by assumption) ?_
      (try simp only [Act.put,stpA,stpB,stpC])
      refine takeT 6 rfl (by assumption) ?_
      (try simp only [Act.put,stpA,stpB,stpC])
      refine takeT 7 rfl (by assumption) ?_
      (try simp only [Act.put,stpA,stpB,stpC])
      refine takeT 8 rfl (by assumption) ?_
      (try simp only [Act.put,stpA,stpB,stpC])
      refine takeT 9 rfl (by assumption) ?_
      (try simp only [Act.put,stpA,stpB,stpC])
      refine takeT 10 rfl (by assumption) ?_
      (try simp only [Act.put,stpA,stpB,stpC])
      refine takeT 11 rfl (by assumption) ?_
      (try simp only [Act.put,stpA,stpB,stpC])
      refine takeT 12 rfl (by assumption) ?_
      (try simp only [Act.put,stpA,stpB,stpC])
      refine takeT 13 rfl (by assumption) ?_
      (try simp only [Act.put,stpA,stpB,stpC])
      refine takeT 14 rfl (by assumption) ?_
      (try simp only [Act.put,stpA,stpB,stpC])
      refine takeT 15 rfl (by assumption) ?_
      (try simp only [Act.put,stpA,stpB,stpC])
      refine takeT 16 rfl (by assumption) ?_
      (try simp only [Act.put,stpA,stpB,stpC])
      refine takeT 17 rfl (by assumption) ?_
      (try simp only [Act.put,stpA,stpB,stpC])
      refine takeT 18 rfl (by assumption) ?_
      (try simp only [Act.put,stpA,stpB,stpC])
      refine wpAnyH_done (by kernel_rfl) ?_ _
      (try clear hHeld)
      (repeat clear ‹Up w _∧_›)
      go_wp2_with fail
      refine bodyPost_ret (v:=.tuple #[.agg #[.int .i64 0,.int .i64 0,.int .i64 0,.int .i64 0,.int .i64 0,.int .i64 0,.slice none 0 0],.int .i64 5]) (by simp [results,Tryz.results31,go_sem,c10,c11,c12,c13,c14,c15,c16]) rfl ⟨rfl,?_⟩
      exact (HU1.out.set7 (by omega)).drew
  · obtain rfl:seq=1099511627776:=HF.out.elim (fun h=>absurd h.1 h0) id
    have t1:decide ((0:Int)<n)=false:=decide_eq_false (by omega)
    have t1n:decide (0<n)=false:=decide_eq_false h0
    have t1p:(0<n)=False:=eq_false h0
    clear HF h0
    go_enter Tryz.func31,Tryz.ntmps31
    go_upto_region 3 with (go_at_call 66;(with_reducible refine (KI.out _).mono ?_);rintro e w2 ⟨rfl,rfl⟩)
    refine (show ∀ w1:World,w1=_→Code.wp _ _ _ _ w1 from fun w1 hw1=>?_) _ rfl
    have HU1:Hid (Up w w1):=Lib.hid (by rw [hw1];exact ((Up.refl w).alloc _ _).alloc _ _)
    have c00:w1.cell? ⟨w.heap.size,0,none⟩=some (.int .i64 g):=by rw [hw1];simp [go_sem]
    have c01:w1.cell? ⟨w.heap.size,1,none⟩=some (.int .i64 v):=by rw [hw1];simp [go_sem]
    have c02:w1.cell? ⟨w.heap.size,2,none⟩=some (.int .i64 q):=by rw [hw1];simp [go_sem]
    have c03:w1.cell? ⟨w.heap.size,3,none⟩=some (.int .i64 c):=by rw [hw1];simp [go_sem]
    have c04:w1.cell? ⟨w.heap.size,4,none⟩=some (.int .i64 now):=by rw [hw1];simp [go_sem]
    have c05:w1.cell? ⟨w.heap.size,5,none⟩=some (.int .i64 1099511627776):=by rw [hw1];simp [go_sem]
    have c06:w1.cell? ⟨w.heap.size,6,none⟩=some (.slice A n k):=by rw [hw1];simp [go_sem]
    have c10:w1.cell? ⟨w.heap.size+1,0,none⟩=some (.int .i64 0):=by rw [hw1];simp [go_sem]
    have c11:w1.cell? ⟨w.heap.size+1,1,none⟩=some (.int .i64 0):=by rw [hw1];simp [go_sem]
    have c12:w1.cell? ⟨w.heap.size+1,2,none⟩=some (.int .i64 0):=by rw [hw1];simp [go_sem]
    have c13:w1.cell? ⟨w.heap.size+1,3,none⟩=some (.int .i64 0):=by rw [hw1];simp [go_sem]
    have c14:w1.cell? ⟨w.heap.size+1,4,none⟩=some (.int .i64 0):=by rw [hw1];simp [go_sem]
    have c15:w1.cell? ⟨w.heap.size+1,5,none⟩=some (.int .i64 0):=by rw [hw1];simp [go_sem]
    have c16:w1.cell? ⟨w.heap.size+1,6,none⟩=some (.slice none 0 0):=by rw [hw1];simp [go_sem]
    have z00:=HU1.out.ownGe (g:=w.heap.size) (Nat.le_refl _) 0
    have z01:=HU1.out.ownGe (g:=w.heap.size) (Nat.le_refl _) 1
    have z02:=HU1.out.ownGe (g:=w.heap.size) (Nat.le_refl _) 2
    have z03:=HU1.out.ownGe (g:=w.heap.size) (Nat.le_refl _) 3
    have z04:=HU1.out.ownGe (g:=w.heap.size) (Nat.le_refl _) 4
    have z05:=HU1.out.ownGe (g:=w.heap.size) (Nat.le_refl _) 5
    have z06:=HU1.out.ownGe (g:=w.heap.size) (Nat.le_refl _) 6
    have z10:=HU1.out.ownGe (g:=w.heap.size+1) (by omega) 0
    have z11:=HU1.out.ownGe (g:=w.heap.size+1) (by omega) 1
    have z12:=HU1.out.ownGe (g:=w.heap.size+1) (by omega) 2
    have z13:=HU1.out.ownGe (g:=w.heap.size+1) (by omega) 3
    have z14:=HU1.out.ownGe (g:=w.heap.size+1) (by omega) 4
    have z15:=HU1.out.ownGe (g:=w.heap.size+1) (by omega) 5
    have z16:=HU1.out.ownGe (g:=w.heap.size+1) (by omega) 6
    have hlt:w.heap.size+1<w1.heap.size:=World.block_lt_of_cell? _ _ c10
    have hlt0:w.heap.size<w1.heap.size:=Nat.lt_of_succ_lt hlt
    clear hw1
    have HSS:Hid (Up w w1∧w1.cell? ⟨w.heap.size,0,none⟩=some (.int .i64 g)∧w1.cell? ⟨w.heap.size,1,none⟩=some (.int .i64 v)∧w1.cell? ⟨w.heap.size,2,none⟩=some (.int .i64 q)∧w1.cell? ⟨w.heap.size,3,none⟩=some (.int .i64 c)∧w1.cell? ⟨w.heap.size,4,none⟩=some (.int .i64 now)∧w1.cell? ⟨w.heap.size,5,none⟩=some (.int .i64 1099511627776)∧w1.cell? ⟨w.heap.size,6,none⟩=some (.slice A n k)∧w1.cell? ⟨(w.heap.size+1),0,none⟩=some (.int .i64 0)∧w1.cell? ⟨(w.heap.size+1),1,none⟩=some (.int .i64 0)∧w1.cell? ⟨(w.heap.size+1),2,none⟩=some (.int .i64 0)∧w1.cell? ⟨(w.heap.size+1),3,none⟩=some (.int .i64 0)∧w1.cell? ⟨(w.heap.size+1),4,none⟩=some (.int .i64 0)∧w1.cell? ⟨(w.heap.size+1),5,none⟩=some (.int .i64 0)∧w1.cell? ⟨(w.heap.size+1),6,none⟩=some (.slice none 0 0)):=Lib.hid ⟨HU1.out,c00,c01,c02,c03,c04,c05,c06,c10,c11,c12,c13,c14,c15,c16⟩
    skip
    go_wp2_with fail
    refine wp_region_held_drew (S:=fun w'=>Up w w'∧w'.cell? ⟨w.heap.size,0,none⟩=some (.int .i64 g)∧w'.cell? ⟨w.heap.size,1,none⟩=some (.int .i64 v)∧w'.cell? ⟨w.heap.size,2,none⟩=some (.int .i64 q)∧w'.cell? ⟨w.heap.size,3,none⟩=some (.int .i64 c)∧w'.cell? ⟨w.heap.size,4,none⟩=some (.int .i64 now)∧w'.cell? ⟨w.heap.size,5,none⟩=some (.int .i64 1099511627776)∧w'.cell? ⟨w.heap.size,6,none⟩=some (.slice A n k)∧w'.cell? ⟨(w.heap.size+1),0,none⟩=some (.int .i64 0)∧w'.cell? ⟨(w.heap.size+1),1,none⟩=some (.int .i64 0)∧w'.cell? ⟨(w.heap.size+1),2,none⟩=some (.int .i64 0)∧w'.cell? ⟨(w.heap.size+1),3,none⟩=some (.int .i64 0)∧w'.cell? ⟨(w.heap.size+1),4,none⟩=some (.int .i64 0)∧w'.cell? ⟨(w.heap.size+1),5,none⟩=some (.int .i64 0)∧w'.cell? ⟨(w.heap.size+1),6,none⟩=some (.slice none 0 0)) (by kernel_rfl) ?hB346 (fun hHeld=>?_)
    case hB346=>(first | (with_reducible assumption) | (with_reducible exact keepK14 (Lib.hid (Up.refl _).drew) HSS.out))
    refine takeT 0 rfl (by assumption) ?_
    (try simp only [Act.put,stpA,stpB,stpC])
    refine takeT 1 rfl (by assumption) ?_
    (try simp only [Act.put,stpA,stpB,stpC])
    refine takeT 2 rfl (by assumption) ?_
    (try simp only [Act.put,stpA,stpB,stpC])
    refine takeT 3 rfl (by assumption) ?_
    (try simp only [Act.put,stpA,stpB,stpC])
    refine takeT 4 rfl (by assumption) ?_
    (try simp only [Act.put,stpA,stpB,stpC])
    refine takeU 5 rfl (by assumption) ?_
    (try simp only [Act.put,stpA,stpB,stpC])
    refine takeU 6 rfl (by assumption) ?_
    (try simp only [Act.put,stpA,stpB,stpC])
    refine takeU 7 rfl (by assumption) ?_
    (try simp only [Act.put,stpA,stpB,stpC])
    refine takeU 8 rfl (by assumption) ?_
    (try simp only [Act.put,stpA,stpB,stpC])
    refine takeU 9 rfl (by assumption) ?_
    (try simp only [Act.put,stpA,stpB,stpC])
    refine takeU 10 rfl (by assumption) ?_
    (try simp only [Act.put,stpA,stpB,stpC])
    refine takeU 11 rfl (by assumption) ?_
    (try simp only [Act.put,stpA,stpB,stpC])
    refine takeU 12 rfl (by assumption) ?_
    (try simp only [Act.put,stpA,stpB,stpC])
    refine takeT 13 rfl (by assumption) ?_
    (try simp only [Act.put,stpA,stpB,stpC])
    refine takeT 14 rfl (by assumption) ?_
    (try simp only [Act.put,stpA,stpB,stpC])
    refine takeT 15 rfl (by assumption) ?_
    (try simp only [Act.put,stpA,stpB,stpC])
    refine takeT 16 rfl (by assumption) ?_
    (try simp only [Act.put,stpA,stpB,stpC])
    refine takeT 17 rfl (by assumption) ?_
    (try simp only [Act.put,stpA,stpB,stpC])
    refine takeT 18 rfl (by assumption) ?_
    (try simp only [Act.put,stpA,stpB,stpC])
    refine wpAnyH_done (by kernel_rfl) ?_ _
    (try clear hHeld)
    (repeat clear ‹Up w _∧_›)
    go_wp2_with fail
    refine bodyPost_ret (v:=.tuple #[.agg #[.int .i64 0,.int .i64 0,.int .i64 0,.int .i64 0,.int .i64 0,.int .i64 0,.slice none 0 0],.int .i64 5]) (by simp [results,Tryz.results31,go_sem,c10,c11,c12,c13,c14,c15,c16]) rfl ⟨rfl,?_⟩
    exact (HU1.out.set7 (by omega)).drew

set_option maxHeartbeats 4000000 in
set_option maxRecDepth 100000 in
theorem maddS_good_pos (nr:Mrk→Mrk→Bool) (ok:Mrk→Prop) (b1:Nat) (g v q c now seq d:Int) (n k:Nat) (A:Option Addr) (X:List Mrk) (hn:n≤50000) (h0:0<n) (hg:1≤g∧g≤4) (hd:valG g d) (hf:fuM c seq X=false) (hs2:0≤seq∧seq≤1099511627776) (hD:∀ j,j<n→bdM (X.getD j mk0)) (hI:∀ j,j<n+1→ok ((inM (seq+1) now d X).getD j mk0)) (hAN:∀ i p j,i<p→p≤j→j<n+1→nr ((inM (seq+1) now d X).getD i mk0) ((inM (seq+1) now d X).getD p mk0)=false→nr ((inM (seq+1) now d X).getD i mk0) ((inM (seq+1) now d X).getD j mk0)=false) (w:World) (hnr:(∀ P M:Mrk,ok P→ok M→∀ W,Up w W→Calls Tryz.prog 69 #[.agg #[.int .i64 P.sq,.int .i64 P.t,.int .i64 P.n,.int .i64 P.s,.int .i64 P.q,.int .i64 P.lo,.int .i64 P.hi],.agg #[.int .i64 M.sq,.int .i64 M.t,.int .i64 M.n,.int .i64 M.s,.int .i64 M.q,.int .i64 M.lo,.int .i64 M.hi],.pointer (some ⟨b1,0,none⟩)] W fun e w'=>e=.returned (.bool (nr P M))∧Up W w')) (hS:SG cM w A n X) :
    Calls Tryz.prog 31 #[.agg #[.int .i64 g,.int .i64 v,.int .i64 q,.int .i64 c,.int .i64 now,.int .i64 seq,.slice A n k],.int .i64 d,.func (.func 69) #[] #[.pointer (some ⟨b1,0,none⟩)]] w fun e w'=>∃ A' n' k',e=.returned (.tuple #[.agg #[.int .i64 g,.int .i64 v,.int .i64 q,.int .i64 c,.int .i64 now,.int .i64 (seq+1),.slice A' n' k'],.int .i64 0])∧n'≤n+1∧n'≤k'∧Nw w A'∧Up w w'∧SG cM w' A' n' (prL nr (n+1) (inM (seq+1) now d X)):=by
  have HL:=Lib.hid hS.1
  have KI:=Lib.hid (isValueG_any d g hg)
  rw [decide_eq_true hd] at KI
  have w5_:IntKind.i64.wrap (seq+1)=seq+1:=by rw [IntKind.wrap_i64];omega
  have KE:=Lib.hid (fun W (h:Up w W)=>extended_up n k A X (seq+1) now d hn hD hd.1 hd.2.1 W (hS.up h))
  have KP:=Lib.hid (fun (A3:Option Addr) (k3:Nat) W (hu:Up w W) (h:SG cM W A3 (n+1) (inM (seq+1) now d X))=>prunedS_up nr ok b1 (n+1) k3 A3 (inM (seq+1) now d X) (by omega) W hI hAN (fun P M h1 h2 V hV=>hnr P M h1 h2 V (hu.trans hV)) h)
  have HSn:=Lib.hid hS
  clear hI hAN hD hnr hS hd hs2 hg
  generalize prL nr (n+1) (inM (seq+1) now d X)=Z at *
  generalize inM (seq+1) now d X=M3 at *
  obtain ⟨b,o,rfl,_⟩:=mrk_at HSn.out mk0 h0
  have HF:Hid ((X.getD 0 mk0).n ≠ c∧seq ≠ 1099511627776):=Lib.hid (by
    unfold fuM at hf
    rw [HSn.out.1,Bool.or_eq_false_iff,Bool.and_eq_false_iff,decide_eq_false_iff_not,decide_eq_false_iff_not,decide_eq_false_iff_not] at hf
    exact ⟨hf.1.elim (fun h2=>absurd h0 h2) id,hf.2⟩)
  clear hf
  have t2:(seq == 1099511627776)=false:=beq_eq_false_iff_ne.2 HF.out.2
  have t3:((X.getD 0 mk0).n == c)=false:=beq_eq_false_iff_ne.2 HF.out.1
  have HT:=Lib.hid (fun W (h:Up w W)=>(mrk_prev (HSn.out.up h) h0).2.2.1)
  clear HF
  generalize (X.getD 0 mk0).n=x0 at *
  have f20:(0:Int)<n:=by omega
  simp only [Nat.zero_mul,Nat.add_zero] at HT
  go_enter Tryz.func31,Tryz.ntmps31
  go_upto_region 3 with (go_at_call 66;(with_reducible refine (KI.out _).mono ?_);rintro e w2 ⟨rfl,rfl⟩)
  refine (show ∀ w1:World,w1=_→Code.wp _ _ _ _ w1 from fun w1 hw1=>?_) _ rfl
  have HU1:Hid (Up w w1):=Lib.hid (by rw [hw1];exact ((Up.refl w).alloc _ _).alloc _ _)
  have c00:w1.cell? ⟨w.heap.size,0,none⟩=some (.int .i64 g):=by rw [hw1];simp [go_sem]
  have c01:w1.cell? ⟨w.heap.size,1,none⟩=some (.int .i64 v):=by rw [hw1];simp [go_sem]
  have c02:w1.cell? ⟨w.heap.size,2,none⟩=some (.int .i64 q):=by rw [hw1];simp [go_sem]
  have c03:w1.cell? ⟨w.heap.size,3,none⟩=some (.int .i64 c):=by rw [hw1];simp [go_sem]
  have c04:w1.cell? ⟨w.heap.size,4,none⟩=some (.int .i64 now):=by rw [hw1];simp [go_sem]
  have c05:w1.cell? ⟨w.heap.size,5,none⟩=some (.int .i64 seq):=by rw [hw1];simp [go_sem]
  have c06:w1.cell? ⟨w.heap.size,6,none⟩=some (.slice (some ⟨b,o,none⟩) n k):=by rw [hw1];simp [go_sem]
  have c10:w1.cell? ⟨w.heap.size+1,0,none⟩=some (.int .i64 0):=by rw [hw1];simp [go_sem]
  have c11:w1.cell? ⟨w.heap.size+1,1,none⟩=some (.int .i64 0):=by rw [hw1];simp [go_sem]
  have c12:w1.cell? ⟨w.heap.size+1,2,none⟩=some (.int .i64 0):=by rw [hw1];simp [go_sem]
  have c13:w1.cell? ⟨w.heap.size+1,3,none⟩=some (.int .i64 0):=by rw [hw1];simp [go_sem]
  have c14:w1.cell? ⟨w.heap.size+1,4,none⟩=some (.int .i64 0):=by rw [hw1];simp [go_sem]
  have c15:w1.cell? ⟨w.heap.size+1,5,none⟩=some (.int .i64 0):=by rw [hw1];simp [go_sem]
  have c16:w1.cell? ⟨w.heap.size+1,6,none⟩=some (.slice none 0 0):=by rw [hw1];simp [go_sem]
  have z00:=HU1.out.ownGe (g:=w.heap.size) (Nat.le_refl _) 0
  have z01:=HU1.out.ownGe (g:=w.heap.size) (Nat.le_refl _) 1
  have z02:=HU1.out.ownGe (g:=w.heap.size) (Nat.le_refl _) 2
  have z03:=HU1.out.ownGe (g:=w.heap.size) (Nat.le_refl _) 3
  have z04:=HU1.out.ownGe (g:=w.heap.size) (Nat.le_refl _) 4
  have z05:=HU1.out.ownGe (g:=w.heap.size) (Nat.le_refl _) 5
  have z06:=HU1.out.ownGe (g:=w.heap.size) (Nat.le_refl _) 6
  have z10:=HU1.out.ownGe (g:=w.heap.size+1) (by omega) 0
  have z11:=HU1.out.ownGe (g:=w.heap.size+1) (by omega) 1
  have z12:=HU1.out.ownGe (g:=w.heap.size+1) (by omega) 2
  have z13:=HU1.out.ownGe (g:=w.heap.size+1) (by omega) 3
  have z14:=HU1.out.ownGe (g:=w.heap.size+1) (by omega) 4
  have z15:=HU1.out.ownGe (g:=w.heap.size+1) (by omega) 5
  have z16:=HU1.out.ownGe (g:=w.heap.size+1) (by omega) 6
  have hlt:w.heap.size+1<w1.heap.size:=World.block_lt_of_cell? _ _ c10
  have hlt0:w.heap.size<w1.heap.size:=Nat.lt_of_succ_lt hlt
  clear hw1
  have hd2:=HT.out _ HU1.out
  have HSS:Hid (Up w w1∧w1.cell? ⟨w.heap.size,0,none⟩=some (.int .i64 g)∧w1.cell? ⟨w.heap.size,1,none⟩=some (.int .i64 v)∧w1.cell? ⟨w.heap.size,2,none⟩=some (.int .i64 q)∧w1.cell? ⟨w.heap.size,3,none⟩=some (.int .i64 c)∧w1.cell? ⟨w.heap.size,4,none⟩=some (.int .i64 now)∧w1.cell? ⟨w.heap.size,5,none⟩=some (.int .i64 seq)∧w1.cell? ⟨w.heap.size,6,none⟩=some (.slice (some ⟨b,o,none⟩) n k)∧w1.cell? ⟨(w.heap.size+1),0,none⟩=some (.int .i64 0)∧w1.cell? ⟨(w.heap.size+1),1,none⟩=some (.int .i64 0)∧w1.cell? ⟨(w.heap.size+1),2,none⟩=some (.int .i64 0)∧w1.cell? ⟨(w.heap.size+1),3,none⟩=some (.int .i64 0)∧w1.cell? ⟨(w.heap.size+1),4,none⟩=some (.int .i64 0)∧w1.cell? ⟨(w.heap.size+1),5,none⟩=some (.int .i64 0)∧w1.cell? ⟨(w.heap.size+1),6,none⟩=some (.slice none 0 0)∧w1.cell? ⟨b,o+2,none⟩=some (.int .i64 x0)):=Lib.hid ⟨HU1.out,c00,c01,c02,c03,c04,c05,c06,c10,c11,c12,c13,c14,c15,c16,hd2⟩
  clear hd2 HT
  go_wp2_with fail
  refine wp_region_held_drew (S:=fun w'=>Up w w'∧w'.cell? ⟨w.heap.size,0,none⟩=some (.int .i64 g)∧w'.cell? ⟨w.heap.size,1,none⟩=some (.int .i64 v)∧w'.cell? ⟨w.heap.size,2,none⟩=some (.int .i64 q)∧w'.cell? ⟨w.heap.size,3,none⟩=some (.int .i64 c)∧w'.cell? ⟨w.heap.size,4,none⟩=some (.int .i64 now)∧w'.cell? ⟨w.heap.size,5,none⟩=some (.int .i64 seq)∧w'.cell? ⟨w.heap.size,6,none⟩=some (.slice (some ⟨b,o,none⟩) n k)∧w'.cell? ⟨(w.heap.size+1),0,none⟩=some (.int .i64 0)∧w'.cell? ⟨(w.heap.size+1),1,none⟩=some (.int .i64 0)∧w'.cell? ⟨(w.heap.size+1),2,none⟩=some (.int .i64 0)∧w'.cell? ⟨(w.heap.size+1),3,none⟩=some (.int .i64 0)∧w'.cell? ⟨(w.heap.size+1),4,none⟩=some (.int .i64 0)∧w'.cell? ⟨(w.heap.size+1),5,none⟩=some (.int .i64 0)∧w'.cell? ⟨(w.heap.size+1),6,none⟩=some (.slice none 0 0)∧w'.cell? ⟨b,o+2,none⟩=some (.int .i64 x0)) (by kernel_rfl) ?hB358 (fun hHeld=>?_)
  case hB358=>(first | (with_reducible assumption) | (with_reducible exact keepK15 (Lib.hid (Up.refl _).drew) HSS.out))
  refine takeT 0 rfl (by assumption) ?_
  (try simp only [Act.put,stpA,stpB,stpC])
  refine takeT 1 rfl (by assumption) ?_
  (try simp only [Act.put,stpA,stpB,stpC])
  refine takeT 2 rfl (by assumption) ?_
  (try simp only [Act.put,stpA,stpB,stpC])
  refine takeT 3 rfl (by assumption) ?_
  (try simp only [Act.put,stpA,stpB,stpC])
  refine takeT 4 rfl (by assumption) ?_
  (try simp only [Act.put,stpA,stpB,stpC])
  refine takeT 5 rfl (by assumption) ?_
  (try simp only [Act.put,stpA,stpB,stpC])
  refine takeT 6 rfl (by assumption) ?_
  (try simp only [Act.put,stpA,stpB,stpC])
  refine takeT 7 rfl (by assumption) ?_
  (try simp only [Act.put,stpA,stpB,stpC])
  refine takeT 8 rfl (by assumption) ?_
  (try simp only [Act.put,stpA,stpB,stpC])
  refine takeT 9 rfl (by assumption) ?_
  (try simp only [Act.put,stpA,stpB,stpC])
  refine takeT 10 rfl (by assumption) ?_
  (try simp only [Act.put,stpA,stpB,stpC])
  refine takeT 11 rfl (by assumption) ?_
  (try simp only [Act.put,stpA,stpB,stpC])
  refine takeT 12 rfl (by assumption) ?_
  (try simp only [Act.put,stpA,stpB,stpC])
  refine takeT 13 rfl (by assumption) ?_
  (try simp only [Act.put,stpA,stpB,stpC])
  refine takeT 14 rfl (by assumption) ?_
  (try simp only [Act.put,stpA,stpB,stpC])
  refine takeT 15 rfl (by assumption) ?_
  (try simp only [Act.put,stpA,stpB,stpC])
  refine takeT 16 rfl (by assumption) ?_
  (try simp only [Act.put,stpA,stpB,stpC])
  refine takeT 17 rfl (by assumption) ?_
  (try simp only [Act.put,stpA,stpB,stpC])
  refine takeT 18 rfl (by assumption) ?_
  (try simp only [Act.put,stpA,stpB,stpC])
  refine wpAnyH_done (by kernel_rfl) ?_ _
  (try clear hHeld)
  (repeat clear ‹Up w _∧_›)
  go_upto_region 6 with fail
  refine (show ∀ W2:World,W2=_→Code.wp _ _ _ _ W2 from fun W2 hW2=>?_) _ rfl
  have U2:=Lib.hid (show Up w W2 by rw [hW2];exact (HU1.out.setCell (Nat.le_refl _) _).drew)
  have b0:W2.cell? ⟨w.heap.size,0,none⟩=some (.int .i64 g):=by rw [hW2];simp [go_sem,c00]
  have b1:W2.cell? ⟨w.heap.size,1,none⟩=some (.int .i64 v):=by rw [hW2];simp [go_sem,c01]
  have b2:W2.cell? ⟨w.heap.size,2,none⟩=some (.int .i64 q):=by rw [hW2];simp [go_sem,c02]
  have b3:W2.cell? ⟨w.heap.size,3,none⟩=some (.int .i64 c):=by rw [hW2];simp [go_sem,c03]
  have b4:W2.cell? ⟨w.heap.size,4,none⟩=some (.int .i64 now):=by rw [hW2];simp [go_sem,c04]
  have b5:W2.cell? ⟨w.heap.size,5,none⟩=some (.int .i64 (seq+1)):=by rw [hW2];simp [go_sem,c05]
  have b6:W2.cell? ⟨w.heap.size,6,none⟩=some (.slice (some ⟨b,o,none⟩) n k):=by rw [hW2];simp [go_sem,c06]
  have r0:W2.cell? ⟨w.heap.size+1,0,none⟩=some (.int .i64 0):=by rw [hW2];simp [go_sem,c10]
  have r1:W2.cell? ⟨w.heap.size+1,1,none⟩=some (.int .i64 0):=by rw [hW2];simp [go_sem,c11]
  have r2:W2.cell? ⟨w.heap.size+1,2,none⟩=some (.int .i64 0):=by rw [hW2];simp [go_sem,c12]
  have r3:W2.cell? ⟨w.heap.size+1,3,none⟩=some (.int .i64 0):=by rw [hW2];simp [go_sem,c13]
  have r4:W2.cell? ⟨w.heap.size+1,4,none⟩=some (.int .i64 0):=by rw [hW2];simp [go_sem,c14]
  have r5:W2.cell? ⟨w.heap.size+1,5,none⟩=some (.int .i64 0):=by rw [hW2];simp [go_sem,c15]
  have r6:W2.cell? ⟨w.heap.size+1,6,none⟩=some (.slice none 0 0):=by rw [hW2];simp [go_sem,c16]
  clear hW2 HU1
  (try clear KI)
  clear hlt hlt0 c00 c01 c02 c03 c04 c05 c06 c10 c11 c12 c13 c14 c15 c16 z00 z01 z02 z03 z04 z05 z06 z10 z11 z12 z13 z14 z15 z16
  go_wp2_with (first
    | (go_at_call 68;(with_reducible refine (KE.out _ U2.out).mono ?_);rintro e w3 ⟨A3,k3,rfl,hu,hM⟩;have HM3:=Lib.hid hM;have HU3:=Lib.hid (U2.out.trans hu);have b0:=hu.keep _ _ _ b0;have b1:=hu.keep _ _ _ b1;have b2:=hu.keep _ _ _ b2;have b3:=hu.keep _ _ _ b3;have b4:=hu.keep _ _ _ b4;have b5:=hu.keep _ _ _ b5;have b6:=hu.keep _ _ _ b6;have r0:=hu.keep _ _ _ r0;have r1:=hu.keep _ _ _ r1;have r2:=hu.keep _ _ _ r2;have r3:=hu.keep _ _ _ r3;have r4:=hu.keep _ _ _ r4;have r5:=hu.keep _ _ _ r5;have r6:=hu.keep _ _ _ r6;clear hu hM)
    | (go_at_call 67;(with_reducible refine (KP.out A3 k3 _ HU3.out HM3.out).mono ?_);rintro e w5 ⟨A5,n5,k5,rfl,hn5,hk5,hnw,hu,hM⟩;have HM5:=Lib.hid hM;have hltW:=World.block_lt_of_cell? _ _ r0;have HNW:Hid (∀ b_ o_,A5=some ⟨b_,o_,none⟩→w.heap.size+1<b_):=Lib.hid (fun b_ o_ h_=>Nat.lt_of_lt_of_le hltW (hnw b_ o_ h_));clear hltW hnw;have UU:=Lib.hid (HU3.out.trans hu);have c00:=hu.keep _ _ _ b0;have c01:=hu.keep _ _ _ b1;have c02:=hu.keep _ _ _ b2;have c03:=hu.keep _ _ _ b3;have c04:=hu.keep _ _ _ b4;have c05:=hu.keep _ _ _ b5;have c06:=hu.keep _ _ _ b6;have c10:=hu.keep _ _ _ r0;have c11:=hu.keep _ _ _ r1;have c12:=hu.keep _ _ _ r2;have c13:=hu.keep _ _ _ r3;have c14:=hu.keep _ _ _ r4;have c15:=hu.keep _ _ _ r5;have c16:=hu.keep _ _ _ r6;have z06:=UU.out.ownGe (g:=w.heap.size) (Nat.le_refl _) 6;have z10:=UU.out.ownGe (g:=w.heap.size+1) (by omega) 0;have z11:=UU.out.ownGe (g:=w.heap.size+1) (by omega) 1;have z12:=UU.out.ownGe (g:=w.heap.size+1) (by omega) 2;have z13:=UU.out.ownGe (g:=w.heap.size+1) (by omega) 3;have z14:=UU.out.ownGe (g:=w.heap.size+1) (by omega) 4;have z15:=UU.out.ownGe (g:=w.heap.size+1) (by omega) 5;have z16:=UU.out.ownGe (g:=w.heap.size+1) (by omega) 6;have hlt:=World.block_lt_of_cell? _ _ c10;clear hu hM))
  refine bodyPost_ret (v:=.tuple #[.agg #[.int .i64 g,.int .i64 v,.int .i64 q,.int .i64 c,.int .i64 now,.int .i64 (seq+1),.slice A5 n5 k5],.int .i64 0]) (by simp [results,Tryz.results31,go_sem,c10,c11,c12,c13,c14,c15,c16]) rfl ⟨A5,n5,k5,rfl,hn5,hk5,fun b_ o_ h_=>by have:=HNW.out b_ o_ h_;omega,?_,?_⟩
  · exact (UU.out.setCell (Nat.le_refl _) _).set7 (by omega)
  · exact (HM5.out.off (fun b_ o_ h_=>by have:=HNW.out b_ o_ h_;omega) _).off7 (fun b_ o_ h_=>by have:=HNW.out b_ o_ h_;omega) _ _ _ _ _ _ _

set_option maxHeartbeats 4000000 in
set_option maxRecDepth 100000 in
theorem maddS_good_zero (nr:Mrk→Mrk→Bool) (ok:Mrk→Prop) (b1:Nat) (g v q c now seq d:Int) (n k:Nat) (A:Option Addr) (X:List Mrk) (hn:n≤50000) (h0:¬ 0<n) (hg:1≤g∧g≤4) (hd:valG g d) (hf:fuM c seq X=false) (hs2:0≤seq∧seq≤1099511627776) (hD:∀ j,j<n→bdM (X.getD j mk0)) (hI:∀ j,j<n+1→ok ((inM (seq+1) now d X).getD j mk0)) (hAN:∀ i p j,i<p→p≤j→j<n+1→nr ((inM (seq+1) now d X).getD i mk0) ((inM (seq+1) now d X).getD p mk0)=false→nr ((inM (seq+1) now d X).getD i mk0) ((inM (seq+1) now d X).getD j mk0)=false) (w:World) (hnr:(∀ P M:Mrk,ok P→ok M→∀ W,Up w W→Calls Tryz.prog 69 #[.agg #[.int .i64 P.sq,.int .i64 P.t,.int .i64 P.n,.int .i64 P.s,.int .i64 P.q,.int .i64 P.lo,.int .i64 P.hi],.agg #[.int .i64 M.sq,.int .i64 M.t,.int .i64 M.n,.int .i64 M.s,.int .i64 M.q,.int .i64 M.lo,.int .i64 M.hi],.pointer (some ⟨b1,0,none⟩)] W fun e w'=>e=.returned (.bool (nr P M))∧Up W w')) (hS:SG cM w A n X) :
    Calls Tryz.prog 31 #[.agg #[.int .i64 g,.int .i64 v,.int .i64 q,.int .i64 c,.int .i64 now,.int .i64 seq,.slice A n k],.int .i64 d,.func (.func 69) #[] #[.pointer (some ⟨b1,0,none⟩)]] w fun e w'=>∃ A' n' k',e=.returned (.tuple #[.agg #[.int .i64 g,.int .i64 v,.int .i64 q,.int .i64 c,.int .i64 now,.int .i64 (seq+1),.slice A' n' k'],.int .i64 0])∧n'≤n+1∧n'≤k'∧Nw w A'∧Up w w'∧SG cM w' A' n' (prL nr (n+1) (inM (seq+1) now d X)):=by
  have HL:=Lib.hid hS.1
  have KI:=Lib.hid (isValueG_any d g hg)
  rw [decide_eq_true hd] at KI
  have w5_:IntKind.i64.wrap (seq+1)=seq+1:=by rw [IntKind.wrap_i64];omega
  have KE:=Lib.hid (fun W (h:Up w W)=>extended_up n k A X (seq+1) now d hn hD hd.1 hd.2.1 W (hS.up h))
  have KP:=Lib.hid (fun (A3:Option Addr) (k3:Nat) W (hu:Up w W) (h:SG cM W A3 (n+1) (inM (seq+1) now d X))=>prunedS_up nr ok b1 (n+1) k3 A3 (inM (seq+1) now d X) (by omega) W hI hAN (fun P M h1 h2 V hV=>hnr P M h1 h2 V (hu.trans hV)) h)
  have HSn:=Lib.hid hS
  clear hI hAN hD hnr hS hd hs2 hg
  generalize prL nr (n+1) (inM (seq+1) now d X)=Z at *
  generalize inM (seq+1) now d X=M3 at *
  have HF:Hid (seq ≠ 1099511627776):=Lib.hid (by
    unfold fuM at hf
    rw [HSn.out.1,Bool.or_eq_false_iff,Bool.and_eq_false_iff,decide_eq_false_iff_not,decide_eq_false_iff_not,decide_eq_false_iff_not] at hf
    exact hf.2)
  clear hf
  have t2:(seq == 1099511627776)=false:=beq_eq_false_iff_ne.2 HF.out
  have t1:decide ((0:Int)<n)=false:=decide_eq_false (by omega)
  have t1n:decide (0<n)=false:=decide_eq_false h0
  have t1p:(0<n)=False:=eq_false h0
  clear HF h0
  go_enter Tryz.func31,Tryz.ntmps31
  go_upto_region 3 with (go_at_call 66;(with_reducible refine (KI.out _).mono ?_);rintro e w2 ⟨rfl,rfl⟩)
  refine (show ∀ w1:World,w1=_→Code.wp _ _ _ _ w1 from fun w1 hw1=>?_) _ rfl
  have HU1:Hid (Up w w1):=Lib.hid (by rw [hw1];exact ((Up.refl w).alloc _ _).alloc _ _)
  have c00:w1.cell? ⟨w.heap.size,0,none⟩=some (.int .i64 g):=by rw [hw1];simp [go_sem]
  have c01:w1.cell? ⟨w.heap.size,1,none⟩=some (.int .i64 v):=by rw [hw1];simp [go_sem]
  have c02:w1.cell? ⟨w.heap.size,2,none⟩=some (.int .i64 q):=by rw [hw1];simp [go_sem]
  have c03:w1.cell? ⟨w.heap.size,3,none⟩=some (.int .i64 c):=by rw [hw1];simp [go_sem]
  have c04:w1.cell? ⟨w.heap.size,4,none⟩=some (.int .i64 now):=by rw [hw1];simp [go_sem]
  have c05:w1.cell? ⟨w.heap.size,5,none⟩=some (.int .i64 seq):=by rw [hw1];simp [go_sem]
  have c06:w1.cell? ⟨w.heap.size,6,none⟩=some (.slice A n k):=by rw [hw1];simp [go_sem]
  have c10:w1.cell? ⟨w.heap.size+1,0,none⟩=some (.int .i64 0):=by rw [hw1];simp [go_sem]
  have c11:w1.cell? ⟨w.heap.size+1,1,none⟩=some (.int .i64 0):=by rw [hw1];simp [go_sem]
  have c12:w1.cell? ⟨w.heap.size+1,2,none⟩=some (.int .i64 0):=by rw [hw1];simp [go_sem]
  have c13:w1.cell? ⟨w.heap.size+1,3,none⟩=some (.int .i64 0):=by rw [hw1];simp [go_sem]
  have c14:w1.cell? ⟨w.heap.size+1,4,none⟩=some (.int .i64 0):=by rw [hw1];simp [go_sem]
  have c15:w1.cell? ⟨w.heap.size+1,5,none⟩=some (.int .i64 0):=by rw [hw1];simp [go_sem]
  have c16:w1.cell? ⟨w.heap.size+1,6,none⟩=some (.slice none 0 0):=by rw [hw1];simp [go_sem]
  have z00:=HU1.out.ownGe (g:=w.heap.size) (Nat.le_refl _) 0
  have z01:=HU1.out.ownGe (g:=w.heap.size) (Nat.le_refl _) 1
  have z02:=HU1.out.ownGe (g:=w.heap.size) (Nat.le_refl _) 2
  have z03:=HU1.out.ownGe (g:=w.heap.size) (Nat.le_refl _) 3
  have z04:=HU1.out.ownGe (g:=w.heap.size) (Nat.le_refl _) 4
  have z05:=HU1.out.ownGe (g:=w.heap.size) (Nat.le_refl _) 5
  have z06:=HU1.out.ownGe (g:=w.heap.size) (Nat.le_refl _) 6
  have z10:=HU1.out.ownGe (g:=w.heap.size+1) (by omega) 0
  have z11:=HU1.out.ownGe (g:=w.heap.size+1) (by omega) 1
  have z12:=HU1.out.ownGe (g:=w.heap.size+1) (by omega) 2
  have z13:=HU1.out.ownGe (g:=w.heap.size+1) (by omega) 3
  have z14:=HU1.out.ownGe (g:=w.heap.size+1) (by omega) 4
  have z15:=HU1.out.ownGe (g:=w.heap.size+1) (by omega) 5
  have z16:=HU1.out.ownGe (g:=w.heap.size+1) (by omega) 6
  have hlt:w.heap.size+1<w1.heap.size:=World.block_lt_of_cell? _ _ c10
  have hlt0:w.heap.size<w1.heap.size:=Nat.lt_of_succ_lt hlt
  clear hw1
  have HSS:Hid (Up w w1∧w1.cell? ⟨w.heap.size,0,none⟩=some (.int .i64 g)∧w1.cell? ⟨w.heap.size,1,none⟩=some (.int .i64 v)∧w1.cell? ⟨w.heap.size,2,none⟩=some (.int .i64 q)∧w1.cell? ⟨w.heap.size,3,none⟩=some (.int .i64 c)∧w1.cell? ⟨w.heap.size,4,none⟩=some (.int .i64 now)∧w1.cell? ⟨w.heap.size,5,none⟩=some (.int .i64 seq)∧w1.cell? ⟨w.heap.size,6,none⟩=some (.slice A n k)∧w1.cell? ⟨(w.heap.size+1),0,none⟩=some (.int .i64 0)∧w1.cell? ⟨(w.heap.size+1),1,none⟩=some (.int .i64 0)∧w1.cell? ⟨(w.heap.size+1),2,none⟩=some (.int .i64 0)∧w1.cell? ⟨(w.heap.size+1),3,none⟩=some (.int .i64 0)∧w1.cell? ⟨(w.heap.size+1),4,none⟩=some (.int .i64 0)∧w1.cell? ⟨(w.heap.size+1),5,none⟩=some (.int .i64 0)∧w1.cell? ⟨(w.heap.size+1),6,none⟩=some (.slice none 0 0)):=Lib.hid ⟨HU1.out,c00,c01,c02,c03,c04,c05,c06,c10,c11,c12,c13,c14,c15,c16⟩
  skip
  go_wp2_with fail
  refine wp_region_held_drew (S:=fun w'=>Up w w'∧w'.cell? ⟨w.heap.size,0,none⟩=some (.int .i64 g)∧w'.cell? ⟨w.heap.size,1,none⟩=some (.int .i64 v)∧w'.cell? ⟨w.heap.size,2,none⟩=some (.int .i64 q)∧w'.cell? ⟨w.heap.size,3,none⟩=some (.int .i64 c)∧w'.cell? ⟨w.heap.size,4,none⟩=some (.int .i64 now)∧w'.cell? ⟨w.heap.size,5,none⟩=some (.int .i64 seq)∧w'.cell? ⟨w.heap.size,6,none⟩=some (.slice A n k)∧w'.cell? ⟨(w.heap.size+1),0,none⟩=some (.int .i64 0)∧w'.cell? ⟨(w.heap.size+1),1,none⟩=some (.int .i64 0)∧w'.cell? ⟨(w.heap.size+1),2,none⟩=some (.int .i64 0)∧w'.cell? ⟨(w.heap.size+1),3,none⟩=some (.int .i64 0)∧w'.cell? ⟨(w.heap.size+1),4,none⟩=some (.int .i64 0)∧w'.cell? ⟨(w.heap.size+1),5,none⟩=some (.int .i64 0)∧w'.cell? ⟨(w.heap.size+1),6,none⟩=some (.slice none 0 0)) (by kernel_rfl) ?hB378 (fun hHeld=>?_)
  case hB378=>(first | (with_reducible assumption) | (with_reducible exact keepK14 (Lib.hid (Up.refl _).drew) HSS.out))
  refine takeT 0 rfl (by assumption) ?_
  (try simp only [Act.put,stpA,stpB,stpC])
  refine takeT 1 rfl (by assumption) ?_
  (try simp only [Act.put,stpA,stpB,stpC])
  refine takeT 2 rfl (by assumption) ?_
  (try simp only [Act.put,stpA,stpB,stpC])
  refine takeT 3 rfl (by assumption) ?_
  (try simp only [Act.put,stpA,stpB,stpC])
  refine takeT 4 rfl (by assumption) ?_
  (try simp only [Act.put,stpA,stpB,stpC])
  refine takeU 5 rfl (by assumption) ?_
  (try simp only [Act.put,stpA,stpB,stpC])
  refine takeU 6 rfl (by assumption) ?_
  (try simp only [Act.put,stpA,stpB,stpC])
  refine takeU 7 rfl (by assumption) ?_
  (try simp only [Act.put,stpA,stpB,stpC])
  refine takeU 8 rfl (by assumption) ?_
  (try simp only [Act.put,stpA,stpB,stpC])
  refine takeU 9 rfl (by assumption) ?_
  (try simp only [Act.put,stpA,stpB,stpC])
  refine takeU 10 rfl (by assumption) ?_
  (try simp only [Act.put,stpA,stpB,stpC])
  refine takeU 11 rfl (by assumption) ?_
  (try simp only [Act.put,stpA,stpB,stpC])
  refine takeU 12 rfl (by assumption) ?_
  (try simp only [Act.put,stpA,stpB,stpC])
  refine takeT 13 rfl (by assumption) ?_
  (try simp only [Act.put,stpA,stpB,stpC])
  refine takeT 14 rfl (by assumption) ?_
  (try simp only [Act.put,stpA,stpB,stpC])
  refine takeT 15 rfl (by assumption) ?_
  (try simp only [Act.put,stpA,stpB,stpC])
  refine takeT 16 rfl (by assumption) ?_
  (try simp only [Act.put,stpA,stpB,stpC])
  refine takeT 17 rfl (by assumption) ?_
  (try simp only [Act.put,stpA,stpB,stpC])
  refine takeT 18 rfl (by assumption) ?_
  (try simp only [Act.put,stpA,stpB,stpC])
  refine wpAnyH_done (by kernel_rfl) ?_ _
  (try clear hHeld)
  (repeat clear ‹Up w _∧_›)
  go_upto_region 6 with fail
  refine (show ∀ W2:World,W2=_→Code.wp _ _ _ _ W2 from fun W2 hW2=>?_) _ rfl
  have U2:=Lib.hid (show Up w W2 by rw [hW2];exact (HU1.out.setCell (Nat.le_refl _) _).drew)
  have b0:W2.cell? ⟨w.heap.size,0,none⟩=some (.int .i64 g):=by rw [hW2];simp [go_sem,c00]
  have b1:W2.cell? ⟨w.heap.size,1,none⟩=some (.int .i64 v):=by rw [hW2];simp [go_sem,c01]
  have b2:W2.cell? ⟨w.heap.size,2,none⟩=some (.int .i64 q):=by rw [hW2];simp [go_sem,c02]
  have b3:W2.cell? ⟨w.heap.size,3,none⟩=some (.int .i64 c):=by rw [hW2];simp [go_sem,c03]
  have b4:W2.cell? ⟨w.heap.size,4,none⟩=some (.int .i64 now):=by rw [hW2];simp [go_sem,c04]
  have b5:W2.cell? ⟨w.heap.size,5,none⟩=some (.int .i64 (seq+1)):=by rw [hW2];simp [go_sem,c05]
  have b6:W2.cell? ⟨w.heap.size,6,none⟩=some (.slice A n k):=by rw [hW2];simp [go_sem,c06]
  have r0:W2.cell? ⟨w.heap.size+1,0,none⟩=some (.int .i64 0):=by rw [hW2];simp [go_sem,c10]
  have r1:W2.cell? ⟨w.heap.size+1,1,none⟩=some (.int .i64 0):=by rw [hW2];simp [go_sem,c11]
  have r2:W2.cell? ⟨w.heap.size+1,2,none⟩=some (.int .i64 0):=by rw [hW2];simp [go_sem,c12]
  have r3:W2.cell? ⟨w.heap.size+1,3,none⟩=some (.int .i64 0):=by rw [hW2];simp [go_sem,c13]
  have r4:W2.cell? ⟨w.heap.size+1,4,none⟩=some (.int .i64 0):=by rw [hW2];simp [go_sem,c14]
  have r5:W2.cell? ⟨w.heap.size+1,5,none⟩=some (.int .i64 0):=by rw [hW2];simp [go_sem,c15]
  have r6:W2.cell? ⟨w.heap.size+1,6,none⟩=some (.slice none 0 0):=by rw [hW2];simp [go_sem,c16]
  clear hW2 HU1
  (try clear KI)
  clear hlt hlt0 c00 c01 c02 c03 c04 c05 c06 c10 c11 c12 c13 c14 c15 c16 z00 z01 z02 z03 z04 z05 z06 z10 z11 z12 z13 z14 z15 z16
  go_wp2_with (first
    | (go_at_call 68;(with_reducible refine (KE.out _ U2.out).mono ?_);rintro e w3 ⟨A3,k3,rfl,hu,hM⟩;have HM3:=Lib.hid hM;have HU3:=Lib.hid (U2.out.trans hu);have b0:=hu.keep _ _ _ b0;have b1:=hu.keep _ _ _ b1;have b2:=hu.keep _ _ _ b2;have b3:=hu.keep _ _ _ b3;have b4:=hu.keep _ _ _ b4;have b5:=hu.keep _ _ _ b5;have b6:=hu.keep _ _ _ b6;have r0:=hu.keep _ _ _ r0;have r1:=hu.keep _ _ _ r1;have r2:=hu.keep _ _ _ r2;have r3:=hu.keep _ _ _ r3;have r4:=hu.keep _ _ _ r4;have r5:=hu.keep _ _ _ r5;have r6:=hu.keep _ _ _ r6;clear hu hM)
    | (go_at_call 67;(with_reducible refine (KP.out A3 k3 _ HU3.out HM3.out).mono ?_);rintro e w5 ⟨A5,n5,k5,rfl,hn5,hk5,hnw,hu,hM⟩;have HM5:=Lib.hid hM;have hltW:=World.block_lt_of_cell? _ _ r0;have HNW:Hid (∀ b_ o_,A5=some ⟨b_,o_,none⟩→w.heap.size+1<b_):=Lib.hid (fun b_ o_ h_=>Nat.lt_of_lt_of_le hltW (hnw b_ o_ h_));clear hltW hnw;have UU:=Lib.hid (HU3.out.trans hu);have c00:=hu.keep _ _ _ b0;have c01:=hu.keep _ _ _ b1;have c02:=hu.keep _ _ _ b2;have c03:=hu.keep _ _ _ b3;have c04:=hu.keep _ _ _ b4;have c05:=hu.keep _ _ _ b5;have c06:=hu.keep _ _ _ b6;have c10:=hu.keep _ _ _ r0;have c11:=hu.keep _ _ _ r1;have c12:=hu.keep _ _ _ r2;have c13:=hu.keep _ _ _ r3;have c14:=hu.keep _ _ _ r4;have c15:=hu.keep _ _ _ r5;have c16:=hu.keep _ _ _ r6;have z06:=UU.out.ownGe (g:=w.heap.size) (Nat.le_refl _) 6;have z10:=UU.out.ownGe (g:=w.heap.size+1) (by omega) 0;have z11:=UU.out.ownGe (g:=w.heap.size+1) (by omega) 1;have z12:=UU.out.ownGe (g:=w.heap.size+1) (by omega) 2;have z13:=UU.out.ownGe (g:=w.heap.size+1) (by omega) 3;have z14:=UU.out.ownGe (g:=w.heap.size+1) (by omega) 4;have z15:=UU.out.ownGe (g:=w.heap.size+1) (by omega) 5;have z16:=UU.out.ownGe (g:=w.heap.size+1) (by omega) 6;have hlt:=World.block_lt_of_cell? _ _ c10;clear hu hM))
  refine bodyPost_ret (v:=.tuple #[.agg #[.int .i64 g,.int .i64 v,.int .i64 q,.int .i64 c,.int .i64 now,.int .i64 (seq+1),.slice A5 n5 k5],.int .i64 0]) (by simp [results,Tryz.results31,go_sem,c10,c11,c12,c13,c14,c15,c16]) rfl ⟨A5,n5,k5,rfl,hn5,hk5,fun b_ o_ h_=>by have:=HNW.out b_ o_ h_;omega,?_,?_⟩
  · exact (UU.out.setCell (Nat.le_refl _) _).set7 (by omega)
  · exact (HM5.out.off (fun b_ o_ h_=>by have:=HNW.out b_ o_ h_;omega) _).off7 (fun b_ o_ h_=>by have:=HNW.out b_ o_ h_;omega) _ _ _ _ _ _ _

theorem maddS_good (nr:Mrk→Mrk→Bool) (ok:Mrk→Prop) (b1:Nat) (g v q c now seq d:Int) (n k:Nat) (A:Option Addr) (X:List Mrk) (hn:n≤50000) (hg:1≤g∧g≤4) (hd:valG g d) (hf:fuM c seq X=false) (hs2:0≤seq∧seq≤1099511627776) (hD:∀ j,j<n→bdM (X.getD j mk0)) (hI:∀ j,j<n+1→ok ((inM (seq+1) now d X).getD j mk0)) (hAN:∀ i p j,i<p→p≤j→j<n+1→nr ((inM (seq+1) now d X).getD i mk0) ((inM (seq+1) now d X).getD p mk0)=false→nr ((inM (seq+1) now d X).getD i mk0) ((inM (seq+1) now d X).getD j mk0)=false) (w:World) (hnr:(∀ P M:Mrk,ok P→ok M→∀ W,Up w W→Calls Tryz.prog 69 #[.agg #[.int .i64 P.sq,.int .i64 P.t,.int .i64 P.n,.int .i64 P.s,.int .i64 P.q,.int .i64 P.lo,.int .i64 P.hi],.agg #[.int .i64 M.sq,.int .i64 M.t,.int .i64 M.n,.int .i64 M.s,.int .i64 M.q,.int .i64 M.lo,.int .i64 M.hi],.pointer (some ⟨b1,0,none⟩)] W fun e w'=>e=.returned (.bool (nr P M))∧Up W w')) (hS:SG cM w A n X) :
    Calls Tryz.prog 31 #[.agg #[.int .i64 g,.int .i64 v,.int .i64 q,.int .i64 c,.int .i64 now,.int .i64 seq,.slice A n k],.int .i64 d,.func (.func 69) #[] #[.pointer (some ⟨b1,0,none⟩)]] w fun e w'=>∃ A' n' k',e=.returned (.tuple #[.agg #[.int .i64 g,.int .i64 v,.int .i64 q,.int .i64 c,.int .i64 now,.int .i64 (seq+1),.slice A' n' k'],.int .i64 0])∧n'≤n+1∧n'≤k'∧Nw w A'∧Up w w'∧SG cM w' A' n' (prL nr (n+1) (inM (seq+1) now d X)):=by
  by_cases h0:0<n
  · exact maddS_good_pos nr ok b1 g v q c now seq d n k A X hn h0 hg hd hf hs2 hD hI hAN w hnr hS
  · exact maddS_good_zero nr ok b1 g v q c now seq d n k A X hn h0 hg hd hf hs2 hD hI hAN w hnr hS
end Go.Proofs.YtafkoddgefcpnaaGreat
