/- What Few and Spread of the reference of layer 8 return. -/
import Derived.Test.YtafkoddgefcpnaaGreatRows
import Derived.Test.YtafkoddgefcpnaaGreatZESpreadq133
import Derived.Test.YtafkoddgefcpnaaGreatZRMakeq136
namespace Go.Proofs.YtafkoddgefcpnaaGreat
open Go.RowKit

/-- The values are small. -/
def smallV (v:Int):Prop := -1048576≤v∧v≤1048576
def fewB (L:List It):Bool:=decide (L.length≤200) && L.all (fun x=>decide (-1048576≤x.2∧x.2≤1048576))
theorem fewB_true {L:List It} (h:fewB L=true):L.length≤200∧∀ x ∈ L,smallV x.2:=by
  unfold fewB at h
  rw [Bool.and_eq_true,decide_eq_true_eq,List.all_eq_true] at h
  exact ⟨h.1,fun x hx=>(of_decide_eq_true (h.2 x hx):-1048576≤x.2∧x.2≤1048576)⟩
theorem sq_small {a b:Int} (ha:smallV a) (hb:smallV b):-2097152≤a - b∧a - b≤2097152∧0≤(a - b) * (a - b)∧(a - b) * (a - b)≤4398046511104:=by
  unfold smallV at *
  refine ⟨by omega,by omega,?_,?_⟩
  · rw [← sq_abs];exact Int.mul_nonneg (by omega) (by omega)
  · rw [← sq_abs]
    have h1:((a - b).natAbs:Int)≤2097152:=by omega
    have:=Int.mul_le_mul h1 h1 (by omega) (by omega)
    omega
theorem rowZ_le {v:Int} {L:List It} (hv:smallV v) (h:∀ x ∈ L,smallV x.2):rowZ v L≤L.length * 4398046511104:=by
  induction L with
  | nil=>simp [rowZ]
  | cons x L ih =>
    have h1:=(sq_small hv (h x (by simp))).2.2.2
    have h2:=ih (fun y hy=>h y (by simp [hy]))
    simp only [rowZ,List.map_cons,List.sum_cons,List.length_cons] at *
    omega
theorem rowZ_take {L:List It} {j:Nat} (hj:j<L.length) (v:Int):rowZ v (L.take (j+1))=rowZ v (L.take j)+(v - (L.getD j (0,0)).2) * (v - (L.getD j (0,0)).2):=by
  rw [take_next hj];simp [rowZ]
theorem dvZ_small {L:List It} (hl:L.length≤200) (h:∀ x ∈ L,smallV x.2) (i:Nat) (hi:i≤L.length):0≤dvZ (L.take i)∧dvZ (L.take i)≤i * 879609302220800:=by
  refine ⟨dvZ_nonneg _,?_⟩
  induction i with
  | zero=>rw [List.take_zero,dvZ_nil];omega
  | succ i ih =>
    rw [take_next (by omega),dvZ_next]
    have h1:=ih (by omega)
    have h2:=rowZ_le (h (L.getD i (0,0)) (by simp [List.getD,show i<L.length by omega])) (fun x hx=>h x (List.mem_of_mem_take (i:=i) hx))
    rw [List.length_take] at h2
    have h3:(((min i L.length:Nat)):Int)≤200:=by omega
    omega

theorem quo_0_1:quoN 0 1=0∧quoD 0 1=1∧quoB 0 1=true:=by decide
set_option maxHeartbeats 8000000 in
set_option maxRecDepth 100000 in
theorem rspread_up (n k:Nat) (A:Option Addr) (L:List It) (hf:fewB L=true) (w:World) (hS:Sl w A n L) :
    Calls Tryz.prog 21 #[.slice A n k] w fun e w'=>e=.returned (.agg #[.int .i64 (sprN L),.int .i64 (sprD L)])∧Up w w':=by
  obtain ⟨hl,hs⟩:=fewB_true hf
  have hd:=dvZ_small hl hs
  have hln:=hS.1
  have hmx:In (max (n:Int) 1):=by unfold In;omega
  have hdd:=hd L.length (Nat.le_refl _)
  rw [List.take_of_length_le (Nat.le_refl _)] at hdd
  have hdi:In (dvZ L):=by unfold In;omega
  have KM:=Lib.hid (fun W=>rmake_up (dvZ L) (max (n:Int) 1) hdi hmx W)
  have eN:quoN (dvZ L) (max (n:Int) 1)=sprN L∧quoD (dvZ L) (max (n:Int) 1)=sprD L:=by
    unfold sprN sprD
    by_cases he:L=[]
    · rw [if_pos he,if_pos he]
      have hn0:n=0:=by rw [← hln,he];rfl
      rw [hn0,he,dvZ_nil]
      exact ⟨quo_0_1.1,quo_0_1.2.1⟩
    · rw [if_neg he,if_neg he]
      have:0<L.length:=List.length_pos_iff.2 he
      rw [show max (n:Int) 1=(L.length:Int) by omega]
      exact ⟨rfl,rfl⟩
  rw [eN.1,eN.2] at KM
  unfold gotR at KM
  generalize quoB (dvZ L) (max (n:Int) 1)=qb at *
  generalize sprN L=x at *
  generalize sprD L=y at *
  have HS:=Lib.hid hS
  have HL:=Lib.hid hln
  have HD:=Lib.hid hd
  have HSS:=Lib.hid hs
  have hn2:n≤200:=by omega
  clear eN hd hs hdd hdi hmx hS hln hl hf
  go_enter Tryz.func21,Tryz.ntmps21
  go_wp2_with fail
  go_loopw [3,11] (fun s t wr=>∃ i:Nat,s=.int .i64 (dvZ (L.take i))∧t=.int .i64 i∧i≤n∧Up w wr∧wr.cell? ⟨w.heap.size,0,none⟩=some (.int .i64 0)∧wr.cell? ⟨w.heap.size,1,none⟩=some (.int .i64 0)) (fun _ t _=>n - (intOf t).toNat)
  case atStart =>
    refine ⟨0,by rw [List.take_zero,dvZ_nil],rfl,Nat.zero_le _,?_,by simp [go_sem],by simp [go_sem]⟩
    repeat (first | exact Up.refl _ | refine Up.alloc ?_ _ _ | refine Up.setCell ?_ (by first | (simp;done) | (simp;omega) | omega) _ | refine Up.drewN ?_ _ | refine Up.drew ?_)
  case round =>
    obtain ⟨i,rfl,rfl,hin,hU,r0,r1⟩:=hrel
    have HU:=Lib.hid hU
    clear hU
    by_cases hi:i<n
    · have hil:i<L.length:=by rw [HL.out];exact hi
      have f2:(i:Int)<n:=by omega
      have f3:(0:Int)≤i:=by omega
      have hvi:smallV (L.getD i (0,0)).2:=HSS.out _ (by simp [List.getD,hil])
      obtain ⟨g0,g1⟩:=HD.out i (by omega)
      have HN:Hid (dvZ (L.take (i+1))=dvZ (L.take i)+rowZ (L.getD i (0,0)).2 (L.take i)):=Lib.hid (by rw [take_next hil,dvZ_next])
      have HR0:=Lib.hid r0
      have HR1:=Lib.hid r1
      have HVI:=Lib.hid hvi
      obtain ⟨D,hD⟩:∃ t,t=dvZ (L.take i):=⟨_,rfl⟩
      rw [← hD] at g0 g1 HN ⊢
      clear r0 r1 hvi hD
      go_wp2_with fail
      go_loopw [3,5] (fun s t wr=>∃ j:Nat,s=.int .i64 (D+rowZ (L.getD i (0,0)).2 (L.take j))∧t=.int .i64 j∧j≤i∧Up w wr∧wr.cell? ⟨w.heap.size,0,none⟩=some (.int .i64 0)∧wr.cell? ⟨w.heap.size,1,none⟩=some (.int .i64 0)) (fun _ t _=>i - (intOf t).toNat)
      case atStart=>exact ⟨0,by simp [rowZ],rfl,Nat.zero_le _,HU.out,HR0.out,HR1.out⟩
      case round =>
        clear HU HR0 HR1
        obtain ⟨j,rfl,rfl,hji,hU,r0,r1⟩:=hrel
        have HU:=Lib.hid hU
        have HR0:=Lib.hid r0
        have HR1:=Lib.hid r1
        clear hU r0 r1
        by_cases hj:j<i
        · obtain ⟨b,o,rfl,d0,d1⟩:=(HS.out.up HU.out).at_ hi
          obtain ⟨b2,o2,hbo,d2,d3⟩:=(HS.out.up HU.out).at_ (show j<n by omega)
          cases hbo
          have hjl:j<L.length:=by omega
          have hvj:smallV (L.getD j (0,0)).2:=HSS.out _ (by simp [List.getD,hjl])
          obtain ⟨e0,e1,e2,e3⟩:=sq_small HVI.out hvj
          have hr0:=rowZ_nonneg (L.getD i (0,0)).2 (L.take j)
          have hr1:=rowZ_le HVI.out (fun x hx=>HSS.out x (List.mem_of_mem_take (i:=j) hx))
          rw [List.length_take,Nat.min_eq_left (by omega)] at hr1
          have HT:=Lib.hid (rowZ_take hjl (L.getD i (0,0)).2)
          generalize rowZ (L.getD i (0,0)).2 (L.take j)=R at *
          generalize hR1:rowZ (L.getD i (0,0)).2 (L.take (j+1))=R1 at *
          have HR1':=Lib.hid hR1
          clear hR1
          have k1:IntKind.i64.wrap ((L.getD i (0,0)).2 - (L.getD j (0,0)).2)=(L.getD i (0,0)).2 - (L.getD j (0,0)).2:=IntWalk.i64_in _ (by omega)
          have k2:IntKind.i64.wrap (((L.getD i (0,0)).2 - (L.getD j (0,0)).2) * ((L.getD i (0,0)).2 - (L.getD j (0,0)).2))=((L.getD i (0,0)).2 - (L.getD j (0,0)).2) * ((L.getD i (0,0)).2 - (L.getD j (0,0)).2):=IntWalk.i64_in _ (by omega)
          generalize (L.getD j (0,0)).1=q0 at *
          generalize (L.getD j (0,0)).2=q1 at *
          have f4:(j:Int)<n:=by omega
          have f5:(0:Int)≤j:=by omega
          have f6:decide ((j:Int)<(i:Int))=true:=decide_eq_true (by omega)
          obtain ⟨b3,hb3⟩:∃ t,t=(L.getD i (0,0)).2:=⟨_,rfl⟩
          rw [← hb3] at d1 k1 k2 e0 e1 e2 e3 HT
          have k3:IntKind.i64.wrap (D+R+(b3 - q1) * (b3 - q1))=D+R+(b3 - q1) * (b3 - q1):=IntWalk.i64_in _ (by omega)
          generalize (L.getD i (0,0)).1=p0 at *
          clear hb3 hvj hr0 hr1
          generalize hee:b3 - q1=ee at *
          go_wp2_with fail
          go_quiet (fail)
          go_wp2_with fail
          go_roundw
          case rel=>exact ⟨j+1,by rw [HR1'.out,HT.out,← Int.add_assoc],by go_num,by omega,HU.out.drewN _,HR0.out,HR1.out⟩
          case measure=>simp [intOf];omega
        · obtain rfl:j=i:=by omega
          rw [← HN.out]
          have f6:decide ((j:Int)<(j:Int))=false:=decide_eq_false (by omega)
          generalize hd1:dvZ (L.take (j+1))=D1
          have HD1:=Lib.hid hd1
          clear hd1
          go_wp2_with fail
          go_roundw
          case rel=>exact ⟨j+1,by rw [HD1.out],by go_num,by omega,HU.out,HR0.out,HR1.out⟩
          case measure=>simp [intOf];omega
    · obtain rfl:i=n:=by omega
      have ht:L.take i=L:=List.take_of_length_le (by rw [HL.out];exact Nat.le_refl _)
      rw [ht]
      generalize dvZ L=dv at *
      have z0:=HU.out.ownGe (Nat.le_refl w.heap.size) 0
      have z1:=HU.out.ownGe (Nat.le_refl w.heap.size) 1
      clear ht
      obtain ⟨mx,hmx⟩:∃ t,t=max (i:Int) 1:=⟨_,rfl⟩
      rw [← hmx] at KM
      by_cases h1:1≤i
      · obtain rfl:mx=(i:Int):=by omega
        have g1:(1:Int)≤(i:Int):=by omega
        clear hmx
        go_wp2_with fail
        all_goals
          refine (KM.out _).mono ?_
          rintro e w1 ⟨rfl,hu1⟩
          have r0':=hu1.keep _ _ _ r0
          have r1':=hu1.keep _ _ _ r1
          have z0':=(hu1.cells.2 _).trans z0
          have z1':=(hu1.cells.2 _).trans z1
          have lw:w.heap.size<w1.heap.size:=World.block_lt_of_cell? _ _ r0'
          go_wp2_with fail
          refine bodyPost_ret (v:=.agg #[.int .i64 x,.int .i64 y]) (by simp [results,Tryz.results21,go_sem,r0',r1',lw]) rfl ⟨?_,?_⟩
          · rfl
          · ((repeat (first | (with_reducible exact Up.refl _) | (with_reducible exact HU.out) | (with_reducible refine Up.trans ?_ hu1) | (with_reducible refine Up.alloc ?_ _ _) | (with_reducible refine Up.setCell ?_ ?_ _) | (with_reducible refine Up.drewN ?_ _) | (with_reducible refine Up.drew ?_)));all_goals (first | (simp;done) | (simp;omega) | omega))
      · obtain rfl:i=0:=by omega
        obtain rfl:mx=1:=by omega
        clear hmx
        go_wp2_with fail
        all_goals
          refine (KM.out _).mono ?_
          rintro e w1 ⟨rfl,hu1⟩
          have r0':=hu1.keep _ _ _ r0
          have r1':=hu1.keep _ _ _ r1
          have z0':=(hu1.cells.2 _).trans z0
          have z1':=(hu1.cells.2 _).trans z1
          have lw:w.heap.size<w1.heap.size:=World.block_lt_of_cell? _ _ r0'
          go_wp2_with fail
          refine bodyPost_ret (v:=.agg #[.int .i64 x,.int .i64 y]) (by simp [results,Tryz.results21,go_sem,r0',r1',lw]) rfl ⟨?_,?_⟩
          · rfl
          · ((repeat (first | (with_reducible exact Up.refl _) | (with_reducible exact HU.out) | (with_reducible refine Up.trans ?_ hu1) | (with_reducible refine Up.alloc ?_ _ _) | (with_reducible refine Up.setCell ?_ ?_ _) | (with_reducible refine Up.drewN ?_ _) | (with_reducible refine Up.drew ?_)));all_goals (first | (simp;done) | (simp;omega) | omega))
end Go.Proofs.YtafkoddgefcpnaaGreat
