/- Texts of these claims, one after the other. -/
import Derived.Test.YtafkoddgefcpnaaGreatRows
import Derived.Test.YtafkoddgefcpnaaGreatZBWithinq149
import Derived.Test.YtafkoddgefcpnaaGreatZERSprq188
import Derived.Test.YtafkoddgefcpnaaGreatZKMcq93
import Derived.Test.YtafkoddgefcpnaaGreatZLAskAq178
namespace Go.Proofs.YtafkoddgefcpnaaGreat

theorem rat_le {p q p2 q2:Int} (h:quoB p q=true) (h2:quoB p2 q2=true) (hq:1≤q) (hq2:1≤q2) (hle:p * q2≤p2 * q):cmpR (quoN p q) (quoD p q) (quoN p2 q2) (quoD p2 q2)≤0:=by
  obtain ⟨_,_,_,v1,e1⟩:=quo_yes h
  obtain ⟨_,_,_,v2,e2⟩:=quo_yes h2
  rw [le_of_cmpR v1 v2]
  have d1:=(validB_of v1).1
  have d2:=(validB_of v2).1
  generalize quoN p q=N at *
  generalize quoD p q=D at *
  generalize quoN p2 q2=N2 at *
  generalize quoD p2 q2=D2 at *
  refine Int.le_of_mul_le_mul_left (a:=q * q2) ?_ (Int.mul_pos (by omega) (by omega))
  have a1:q * q2 * (N * D2)=(N * q) * (D2 * q2):=by ac_rfl
  have a2:q * q2 * (N2 * D)=(N2 * q2) * (D * q):=by ac_rfl
  rw [a1,a2,e1,e2]
  have a3:p * D * (D2 * q2)=D * D2 * (p * q2):=by ac_rfl
  have a4:p2 * D2 * (D * q)=D * D2 * (p2 * q):=by ac_rfl
  rw [a3,a4]
  exact Int.mul_le_mul_of_nonneg_left hle (Int.mul_nonneg (by omega) (by omega))
theorem rat_within {p1 q1 p3 q3 p q k:Int} (h1:quoB p1 q1=true) (h3:quoB p3 q3=true) (h:quoB p q=true) (a1:1≤q1) (a3:1≤q3) (a:1≤q) (hle:k * (p3 * q1 - p1 * q3) * q≤p * (q1 * q3)):wdZ (quoN p1 q1) (quoD p1 q1) (quoN p3 q3) (quoD p3 q3) * (k * quoD p q)≤quoD p1 q1 * quoD p3 q3 * quoN p q:=by
  obtain ⟨_,_,_,v1,e1⟩:=quo_yes h1
  obtain ⟨_,_,_,v3,e3⟩:=quo_yes h3
  obtain ⟨_,_,_,v,e⟩:=quo_yes h
  have d1:=(validB_of v1).1
  have d3:=(validB_of v3).1
  have d:=(validB_of v).1
  unfold wdZ
  generalize quoN p1 q1=N1 at *
  generalize quoD p1 q1=D1 at *
  generalize quoN p3 q3=N3 at *
  generalize quoD p3 q3=D3 at *
  generalize quoN p q=N at *
  generalize quoD p q=D at *
  refine Int.le_of_mul_le_mul_left (a:=q1 * q3 * q) ?_ (Int.mul_pos (Int.mul_pos (by omega) (by omega)) (by omega))
  have b1:q1 * q3 * q * ((N3 * D1 - N1 * D3) * (k * D))=((N3 * q3) * (D1 * q1) - (N1 * q1) * (D3 * q3)) * (k * D * q):=by grind
  have b2:q1 * q3 * q * (D1 * D3 * N)=(N * q) * (D1 * q1 * (D3 * q3)):=by ac_rfl
  rw [b1,b2,e1,e3,e]
  have b3:(p3 * D3 * (D1 * q1) - p1 * D1 * (D3 * q3)) * (k * D * q)=D1 * D3 * D * (k * (p3 * q1 - p1 * q3) * q):=by grind
  have b4:p * D * (D1 * q1 * (D3 * q3))=D1 * D3 * D * (p * (q1 * q3)):=by ac_rfl
  rw [b3,b4]
  exact Int.mul_le_mul_of_nonneg_left hle (Int.mul_nonneg (Int.mul_nonneg (by omega) (by omega)) (by omega))
theorem sm_su (L:List It):smZ L=suL (L.map (fun x=>x.2)):=by
  induction L with
  | nil=>rfl
  | cons x L ih=>simp only [smZ,List.map_cons,List.sum_cons,suL] at ih ⊢;omega
theorem sq_sq (L:List It):sqZ L=sqL (L.map (fun x=>x.2)):=by
  induction L with
  | nil=>rfl
  | cons x L ih=>simp only [sqZ,List.map_cons,List.sum_cons,sqL] at ih ⊢;omega
theorem dv_sp (L:List It):dvZ L=spW (L.map (fun x=>x.2)):=by
  unfold dvZ spW
  rw [sm_su,sq_sq,List.length_map]
/-- The marks X are those that the items M have left. -/
def Sp (v q c now:Int) (X:List Mrk) (M:List It):Prop:=mayC v q c now=true∧M.length≤1000∧∃ P,X=P.map (mrkA M)∧Ss v q c now P M
/-- What Most of package spread returns. -/
def mostS (k c:Int):Int:=if (1≤k∧k≤64)∧(1≤c∧c≤65536) then 12 * k * (3 * bitsZ c+24)+4 else 0
theorem Sp.start {v q c:Int} (hm:mayC v q c 0=true):Sp v q c 0 [] [] :=
  ⟨hm,Nat.zero_le _,[],rfl,SnM.start (by omega) (mayC_facts hm).2.1.1 (mayC_facts hm).2.2.1.1⟩
section
variable {v q c now : Int} {X : List Mrk} {M : List It}
theorem Sp.st (h:Sp v q c now X M):stP v q c now M.length X=true:=by
  obtain ⟨hm,hl,P,rfl,hs⟩:=h
  exact Ss.st hs hm (by omega)
theorem Sp.len (h:Sp v q c now X M):X.length≤M.length:=by
  obtain ⟨hm,hl,P,rfl,hs⟩:=h
  rw [List.length_map]
  exact SnM.len hs
theorem Sp.mem (h:Sp v q c now X M):∀ x ∈ M,(0≤x.1∧x.1≤now)∧valG 4 x.2:=by
  obtain ⟨hm,hl,P,rfl,hs⟩:=h
  exact fun x hx=>⟨hs.rg x hx,hs.vals x hx⟩
theorem Sp.adv (h:Sp v q c now X M) {td:Int} (h1:now≤td) (h2:td≤16777216):Sp v q c td (drM td v X) M:=by
  obtain ⟨hm,hl,P,rfl,hs⟩:=h
  obtain ⟨f1,f2,f3,f4⟩:=mayC_facts hm
  have hk:=(mayC_true hm).2
  exact ⟨mayC_ok (by omega) h2 f2.1 f2.2 f3.1 f3.2 hk.1 hk.2,hl,_,SnM.dr_map hs hm h1 h2,hs.adv h1⟩
theorem Sp.add (h:Sp v q c now X M) {d:Int} (hd:valG 4 d) (hf:fuM c M.length X=false) (hl:M.length+1≤1000):Sp v q c now (adS q M.length now d X) (M ++ [(now,d)]):=by
  obtain ⟨hm,_,P,rfl,hs⟩:=h
  have h0:=(mayC_facts hm).1.1
  have hc:∀ p,P.head?=some p→(M.length:Int) - p<c:=by
    rcases SnM.fu_no hs hf with e | e
    · exact e.1
    · omega
  exact ⟨hm,by rw [List.length_append];simpa using hl,_,Ss.ad_map hs hm hd hc,Ss.add hs h0 hd hc (Nat.le_refl _)⟩
theorem Sp.few (h:Sp v q c now X M):(X.length:Int)≤mostS q c:=by
  obtain ⟨hm,hl,P,rfl,hs⟩:=h
  have hk:=(mayC_true hm).2
  have hc:=(mayC_facts hm).2.2.1
  rw [List.length_map]
  have hb0:=(bitsZ_bound c).1
  have hb:=bitsZ_lt _ c (Nat.le_refl _) (by omega)
  have hn:∀ p ∈ P,((vlF M p).length:Int)≤c:=fun p hp=>by
    have:=SnM.within hs p hp
    have:=hs.lt p hp
    rw [vlF_len];omega
  have e1:((2 ^ (2 * (bitsZ c).toNat+24):Nat):Int)=((2 ^ (bitsZ c).toNat:Nat):Int) * ((2 ^ (bitsZ c).toNat:Nat):Int) * 16777216:=by
    rw [Nat.pow_add,show 2 * (bitsZ c).toNat=(bitsZ c).toNat+(bitsZ c).toNat by omega,Nat.pow_add,Int.natCast_mul,Int.natCast_mul]
    rfl
  have h1:∀ p ∈ P,wP M p<((2 ^ (2 * (bitsZ c).toNat+24):Nat):Int):=fun p hp=>by
    have hv:=vlF_val hs.vals p
    have h3:=sqL_le (A:=vlF M p) (m:=4096) (fun x hx=>⟨(hv x hx).1,(hv x hx).2.1⟩)
    rw [show (4096:Int) * 4096=16777216 from rfl] at h3
    have h4:=sqL_nn (vlF M p)
    have h5:=sq_nn (suL (vlF M p))
    have h6:wP M p≤((vlF M p).length:Int) * (((vlF M p).length:Int) * 16777216):=by
      have:=Int.mul_le_mul_of_nonneg_left h3 (Int.natCast_nonneg (vlF M p).length)
      unfold wP spW
      omega
    have h7:=hn p hp
    have h8:((vlF M p).length:Int) * (((vlF M p).length:Int) * 16777216)≤c * (c * 16777216):=by
      have a:=Int.mul_le_mul_of_nonneg_right h7 (show (0:Int)≤16777216 by omega)
      exact Int.le_trans (Int.mul_le_mul_of_nonneg_left a (Int.natCast_nonneg _)) (Int.mul_le_mul_of_nonneg_right h7 (by omega))
    rw [e1]
    generalize ((2 ^ (bitsZ c).toNat:Nat):Int)=y at *
    have h9:c * c<y * y:=Int.lt_of_lt_of_le (Int.mul_lt_mul_of_pos_left hb (by omega)) (Int.mul_le_mul_of_nonneg_right (by omega) (by omega))
    have e2:c * (c * 16777216)=c * c * 16777216:=by ac_rfl
    omega
  have h2:∀ p ∈ P,((vlF M p).length:Int)<((2 ^ (bitsZ c).toNat:Nat):Int):=fun p hp=>Int.lt_of_le_of_lt (hn p hp) hb
  have hf:=Ss.few (k:=q.toNat) (by rw [show ((q.toNat:Nat):Int)=q by omega];exact hs) (by omega) h1 h2
  have e3:mostS q c=12 * q * (3 * bitsZ c+24)+4:=if_pos ⟨hk,hc⟩
  rw [e3]
  obtain ⟨b,eb⟩:∃ b:Nat,(bitsZ c).toNat=b:=⟨_,rfl⟩
  rw [eb] at hf
  rw [show bitsZ c=(b:Int) by omega]
  obtain ⟨k,ek⟩:∃ k:Nat,q.toNat=k:=⟨_,rfl⟩
  rw [ek] at hf
  rw [show q=(k:Int) by omega]
  have h10:2 * (6 * k - 1) * (2 * b+24+b)≤12 * k * (3 * b+24):=by
    rw [show 2 * b+24+b=3 * b+24 by omega]
    exact Nat.mul_le_mul_right _ (by omega)
  have h11:((12 * k * (3 * b+24)+4:Nat):Int)=12 * (k:Int) * (3 * (b:Int)+24)+4:=by
    rw [Int.natCast_add,Int.natCast_mul,Int.natCast_mul,Int.natCast_add,Int.natCast_mul];rfl
  rw [← h11]
  omega
/-- The answer: its marks, and that it holds the spread of the live items and is narrow. -/
theorem Sp.truth (h:Sp v q c now X M):(asS now v X=none∧mlL M now v=[])∨∃ lo hi,asS now v X=some (lo,hi)∧myM lo=true∧myM hi=true ∧
    bvB (quoN (spM lo) lo.n) (quoD (spM lo) lo.n) (quoN (spM lo) lo.n) (quoD (spM lo) lo.n) (quoN (spM hi) hi.n) (quoD (spM hi) hi.n)=true ∧
    hoB (quoN (spM lo) lo.n) (quoD (spM lo) lo.n) (quoN (spM lo) lo.n) (quoD (spM lo) lo.n) (quoN (spM hi) hi.n) (quoD (spM hi) hi.n) (sprN (mlL M now v)) (sprD (mlL M now v))=true ∧
    wiB (quoN (spM lo) lo.n) (quoD (spM lo) lo.n) (quoN (spM lo) lo.n) (quoD (spM lo) lo.n) (quoN (spM hi) hi.n) (quoD (spM hi) hi.n) q (sprN (mlL M now v)) (sprD (mlL M now v))=true ∧
    In (sprN (mlL M now v))∧In (sprD (mlL M now v)):=by
  obtain ⟨hm,hl,P,rfl,hs⟩:=h
  have hk:=(mayC_true hm).2
  have hc:=(mayC_facts hm).2.2.1
  obtain ⟨l,a1,a2,a3,a4,a5,a6⟩:=Ss.truth hs hk.1
  rw [mlL_sv hs,a2]
  rcases Ss.as_map hs hm with ⟨e,e2⟩ | ⟨e,b1,b2,b3⟩
  · refine Or.inl ⟨e2,?_⟩
    subst e
    have h3:M.length≤l:=a3
    exact List.drop_eq_nil_of_le (by omega)
  · refine Or.inr ⟨_,_,e,Ss.my hs hc.2 _ b3,Ss.my hs hc.2 _ b2,?_⟩
    generalize (askS now v M P).1=pb at *
    generalize (askS now v M P).2=pa at *
    have hll:l<M.length:=by omega
    have ml:myM (mrkA M l)=true:=myM_mrkA hs.vals hll (by have:=SnM.within hs pa b2;omega)
    have f1:=spM_fit (Ss.my hs hc.2 _ b3)
    have f2:=spM_fit (Ss.my hs hc.2 _ b2)
    have f3:=spM_fit ml
    have n1:=(myM_true (Ss.my hs hc.2 _ b3)).1
    have n2:=(myM_true (Ss.my hs hc.2 _ b2)).1
    have n3:=(myM_true ml).1
    have hne:M.drop l ≠ []:=by rw [Ne,List.drop_eq_nil_iff];omega
    have es:sprN (M.drop l)=quoN (spM (mrkA M l)) (mrkA M l).n∧sprD (M.drop l)=quoD (spM (mrkA M l)) (mrkA M l).n:=by
      unfold sprN sprD
      rw [if_neg hne,if_neg hne,dv_sp]
      have e3:((M.drop l).length:Int)=(mrkA M l).n:=by
        show _=((vlF M l).length:Int)
        unfold vlF;rw [List.length_map]
      rw [e3]
      exact ⟨rfl,rfl⟩
    rw [es.1,es.2]
    have m1:spM (mrkA M pb) * (mrkA M l).n≤spM (mrkA M l) * (mrkA M pb).n:=by
      have:=wP_mono M a4
      show wP M pb * ((vlF M l).length:Int)≤wP M l * ((vlF M pb).length:Int)
      rw [Int.mul_comm,Int.mul_comm (wP M l)]
      exact this
    have m2:spM (mrkA M l) * (mrkA M pa).n≤spM (mrkA M pa) * (mrkA M l).n:=by
      have:=wP_mono M a3
      show wP M l * ((vlF M pa).length:Int)≤wP M pa * ((vlF M l).length:Int)
      rw [Int.mul_comm,Int.mul_comm (wP M pa)]
      exact this
    have m3:spM (mrkA M pb) * (mrkA M pa).n≤spM (mrkA M pa) * (mrkA M pb).n:=by
      have:=wP_mono M (Nat.le_trans a3 a4)
      show wP M pb * ((vlF M pa).length:Int)≤wP M pa * ((vlF M pb).length:Int)
      rw [Int.mul_comm,Int.mul_comm (wP M pa)]
      exact this
    have a6':q * ((mrkA M pb).n * spM (mrkA M pa))≤(q+1) * ((mrkA M pa).n * spM (mrkA M pb)):=a6
    obtain ⟨_,i1,i2,v3,_⟩:=quo_yes f3
    obtain ⟨_,_,_,v1,_⟩:=quo_yes f1
    obtain ⟨_,_,_,v2,_⟩:=quo_yes f2
    have hnn:0≤quoN (spM (mrkA M l)) (mrkA M l).n:=by
      have e4:=(quo_yes f3).2.2.2.2
      have p0:=(myM_bd ml).2.2.2.2.2.1
      have d0:=(validB_of v3).1
      have:0≤quoN (spM (mrkA M l)) (mrkA M l).n * (mrkA M l).n:=by rw [e4];exact Int.mul_nonneg p0 (by omega)
      exact Int.nonneg_of_mul_nonneg_left this (by omega)
    have hb:=bvB_mk v1 v1 v2 (rat_le f1 f1 n1 n1 (Int.le_refl _)) (rat_le f1 f2 n1 n2 m3)
    refine ⟨hb,hoB_mk hb v3 (rat_le f1 f3 n1 n3 m1) (rat_le f3 f2 n3 n2 m2),?_,i1,i2⟩
    rw [wiB_main hb hk.1 v3 hnn]
    refine decide_eq_true (rat_within f1 f2 f3 n1 n2 n3 ?_)
    generalize spM (mrkA M pa)=wa at *
    generalize spM (mrkA M pb)=wb at *
    generalize spM (mrkA M l)=wl at *
    generalize (mrkA M pa).n=na at *
    generalize (mrkA M pb).n=nb at *
    generalize (mrkA M l).n=nl at *
    have s1:q * (wa * nb - wb * na)≤wb * na:=by
      have t1:q * (nb * wa)=q * (wa * nb):=by rw [Int.mul_comm nb]
      have t2:(q+1) * (na * wb)=q * (wb * na)+wb * na:=by rw [Int.add_mul,Int.one_mul,Int.mul_comm na]
      rw [Int.mul_sub]
      omega
    have s2:=Int.mul_le_mul_of_nonneg_right s1 (show 0≤nl by omega)
    have s3:=Int.mul_le_mul_of_nonneg_right m1 (show 0≤na by omega)
    have t3:wb * na * nl=wb * nl * na:=by ac_rfl
    have t4:wl * nb * na=wl * (nb * na):=by ac_rfl
    omega
end
end Go.Proofs.YtafkoddgefcpnaaGreat

namespace Go.Proofs.YtafkoddgefcpnaaGreat
open Go.RowKit
set_option linter.unusedVariables false

theorem farP6 {w:World} {p g o:Nat} {v0 v1 v2 v3 v4 v5 u:Value} (h:w.cell? ⟨g,o,none⟩=some u) (hp:p ≠ g):((((((w.setCell ⟨p,0,none⟩ (v0)).setCell ⟨p,1,none⟩ (v1)).setCell ⟨p,2,none⟩ (v2)).setCell ⟨p,3,none⟩ (v3)).setCell ⟨p,4,none⟩ (v4)).setCell ⟨p,5,none⟩ (v5)).cell? ⟨g,o,none⟩=some u :=
  (cell_far hp).trans ((cell_far hp).trans ((cell_far hp).trans ((cell_far hp).trans ((cell_far hp).trans ((cell_far hp).trans h)))))
set_option maxHeartbeats 4000000 in
set_option maxRecDepth 100000 in
theorem new14_yes (v q c now:Int) (h:mayC v q c now=true) (w:World) :
    Calls Tryz.prog 17 #[.int .i64 v,.int .i64 q,.int .i64 c,.int .i64 now] w fun e w'=>e=.returned (.tuple #[.agg #[.int .i64 v,.int .i64 q,.int .i64 c,.int .i64 now,.int .i64 0,.slice none 0 0],.int .i64 0])∧Up w w':=by
  have KN:=Lib.hid (mnew_yes 4 v q c now (by unfold mayM;rw [h];rfl))
  have KF:=Lib.hid (fromSmooth_up 4 v q c now 0 0 0 none)
  clear h
  go_enter Tryz.func17,Tryz.ntmps17
  go_wp2_with (first
    | (go_at_call 48;(with_reducible refine (KN.out _).mono ?_);rintro e w1 ⟨rfl,hu⟩;have hv:=((Up.refl w).alloc #[.int .i64 0,.int .i64 0,.int .i64 0,.int .i64 0,.int .i64 0,.slice none 0 0] 24).trans hu;have HV1:=Lib.hid hv;have HU1:=Lib.hid ((Up.refl w).trans hv);have r_1_0:=hu.keep (w.heap.size) 0 (.int .i64 0) (by simp [go_sem]);have r_1_1:=hu.keep (w.heap.size) 1 (.int .i64 0) (by simp [go_sem]);have r_1_2:=hu.keep (w.heap.size) 2 (.int .i64 0) (by simp [go_sem]);have r_1_3:=hu.keep (w.heap.size) 3 (.int .i64 0) (by simp [go_sem]);have r_1_4:=hu.keep (w.heap.size) 4 (.int .i64 0) (by simp [go_sem]);have r_1_5:=hu.keep (w.heap.size) 5 (.slice none 0 0) (by simp [go_sem]);have lr1:=World.block_lt_of_cell? _ _ r_1_0;clear hu hv )
    | (go_at_call 28;(with_reducible refine (KF.out _).mono ?_);rintro e w2 ⟨rfl,hu⟩;have hv:=((Up.refl w1).alloc #[.int .i64 4,.int .i64 v,.int .i64 q,.int .i64 c,.int .i64 now,.int .i64 0,.slice none 0 0] 58).trans hu;have HV2:=Lib.hid hv;have HU2:=Lib.hid (HU1.out.trans hv);have r_2_0:=hv.keep _ _ _ r_1_0;have r_2_1:=hv.keep _ _ _ r_1_1;have r_2_2:=hv.keep _ _ _ r_1_2;have r_2_3:=hv.keep _ _ _ r_1_3;have r_2_4:=hv.keep _ _ _ r_1_4;have r_2_5:=hv.keep _ _ _ r_1_5;have x_2_0:=hu.keep (w1.heap.size) 0 (.int .i64 4) (by simp [go_sem]);have x_2_1:=hu.keep (w1.heap.size) 1 (.int .i64 v) (by simp [go_sem]);have x_2_2:=hu.keep (w1.heap.size) 2 (.int .i64 q) (by simp [go_sem]);have x_2_3:=hu.keep (w1.heap.size) 3 (.int .i64 c) (by simp [go_sem]);have x_2_4:=hu.keep (w1.heap.size) 4 (.int .i64 now) (by simp [go_sem]);have x_2_5:=hu.keep (w1.heap.size) 5 (.int .i64 0) (by simp [go_sem]);have x_2_6:=hu.keep (w1.heap.size) 6 (.slice none 0 0) (by simp [go_sem]);have lr2:=World.block_lt_of_cell? _ _ r_2_0;have lx2:=World.block_lt_of_cell? _ _ x_2_0;have z0:=HU2.out.ownGe (g:=w.heap.size) (Nat.le_refl _) 0;have z1:=HU2.out.ownGe (g:=w.heap.size) (Nat.le_refl _) 1;have z2:=HU2.out.ownGe (g:=w.heap.size) (Nat.le_refl _) 2;have z3:=HU2.out.ownGe (g:=w.heap.size) (Nat.le_refl _) 3;have z4:=HU2.out.ownGe (g:=w.heap.size) (Nat.le_refl _) 4;have z5:=HU2.out.ownGe (g:=w.heap.size) (Nat.le_refl _) 5;clear hu hv lr1 r_1_0 r_1_1 r_1_2 r_1_3 r_1_4 r_1_5))
  refine bodyPost_ret (v:=.tuple #[.agg #[.int .i64 v,.int .i64 q,.int .i64 c,.int .i64 now,.int .i64 0,.slice none 0 0],.int .i64 0]) (by simp [results,Tryz.results17,go_sem,r_2_0,r_2_1,r_2_2,r_2_3,r_2_4,r_2_5]) rfl ⟨rfl,?_⟩
  exact HU2.out.setP6 (Nat.le_refl _)

theorem mostS_yes {k c:Int} (h2:1≤k∧k≤64) (h3:1≤c∧c≤65536):mostS k c=12 * k * (3 * bitsZ c+24)+4:=if_pos ⟨h2,h3⟩
theorem mostS_no {k c:Int} (h:¬ ((1≤k∧k≤64)∧(1≤c∧c≤65536))):mostS k c=0:=if_neg h
theorem mostS_fits {k y:Int} (hk:1≤k∧k≤64) (h0:0≤y) (h1:y≤65536):0≤12 * k * (3 * y+24)∧12 * k * (3 * y+24)≤151013376:=by
  have a1:0≤12 * k * (3 * y+24):=Int.mul_nonneg (by omega) (by omega)
  have a2:12 * k * (3 * y+24)≤768 * (3 * y+24):=Int.mul_le_mul_of_nonneg_right (by omega) (by omega)
  omega
set_option maxHeartbeats 4000000 in
set_option maxRecDepth 100000 in
theorem rmost14_any (k c:Int) (w:World) :
    Calls Tryz.prog 19 #[.int .i64 k,.int .i64 c] w fun e w'=>e=.returned (.int .i64 (mostS k c))∧w=w':=by
  have KK:=Lib.hid (rmayK11_any k)
  have KB:Hid (∀ w:World,True):=Lib.hid (fun _=>trivial)
  cases hk0:decide (1≤k∧k≤64) with
  | false =>
    rw [mostS_no (fun h=>of_decide_eq_false hk0 h.1)]
    rw [hk0] at KK
    clear hk0
    go_enter Tryz.func19,Tryz.ntmps19
    go_wp2_with (first | (go_at_call 44;(with_reducible refine (KK.out _).mono ?_);rintro e w' ⟨rfl,rfl⟩) | (go_at_call 51;(with_reducible refine (KB.out _).mono ?_);rintro e w' ⟨rfl,rfl⟩))
    go_ret
    exact ⟨rfl,rfl⟩
  | true =>
  rw [hk0] at KK
  have hk:1≤k∧k≤64:=of_decide_eq_true hk0
  clear hk0
  by_cases c1:c<1
  · rw [mostS_no (by omega)]
    have t1:decide (c<1)=true:=decide_eq_true c1
    go_enter Tryz.func19,Tryz.ntmps19
    go_wp2_with (first | (go_at_call 44;(with_reducible refine (KK.out _).mono ?_);rintro e w' ⟨rfl,rfl⟩) | (go_at_call 51;(with_reducible refine (KB.out _).mono ?_);rintro e w' ⟨rfl,rfl⟩))
    go_ret
    exact ⟨rfl,rfl⟩
  have t1:decide (c<1)=false:=decide_eq_false c1
  by_cases c2:65536<c
  · rw [mostS_no (by omega)]
    have t2:decide (65536<c)=true:=decide_eq_true c2
    go_enter Tryz.func19,Tryz.ntmps19
    go_wp2_with (first | (go_at_call 44;(with_reducible refine (KK.out _).mono ?_);rintro e w' ⟨rfl,rfl⟩) | (go_at_call 51;(with_reducible refine (KB.out _).mono ?_);rintro e w' ⟨rfl,rfl⟩))
    go_ret
    exact ⟨rfl,rfl⟩
  have t2:decide (65536<c)=false:=decide_eq_false c2
  have hc:1≤c∧c≤65536:=by omega
  rw [mostS_yes hk hc]
  clear KB
  have KB:=Lib.hid (rbits_any c ⟨by omega,by omega⟩)
  have hy:=bitsZ_bound c
  have hz:=mostS_fits (k:=k) (y:=bitsZ c) hk hy.1 (by have:=hy.2.1 (by omega);omega)
  have hy0:0≤bitsZ c∧bitsZ c≤65536:=⟨hy.1,by have:=hy.2.1 (by omega);omega⟩
  generalize bitsZ c=y at *
  obtain ⟨z1,z2⟩:=hz
  obtain ⟨z3,z4⟩:=hy0
  obtain ⟨k1,k2⟩:=hk
  clear hy hc
  go_enter Tryz.func19,Tryz.ntmps19
  go_wp2_with (first | (go_at_call 44;(with_reducible refine (KK.out _).mono ?_);rintro e w' ⟨rfl,rfl⟩) | (go_at_call 51;(with_reducible refine (KB.out _).mono ?_);rintro e w' ⟨rfl,rfl⟩))
  go_ret
  exact ⟨rfl,rfl⟩

end Go.Proofs.YtafkoddgefcpnaaGreat

namespace Go.Proofs.YtafkoddgefcpnaaGreat
open Go.RowKit
set_option linter.unusedVariables false

theorem Sl.offP6 {w:World} {A:Option Addr} {n p:Nat} {M:List It} (h:Sl w A n M) (hn:∀ b o,A=some ⟨b,o,none⟩→b ≠ p) (v0 v1 v2 v3 v4 v5:Value):Sl ((((((w.setCell ⟨p,0,none⟩ (v0)).setCell ⟨p,1,none⟩ (v1)).setCell ⟨p,2,none⟩ (v2)).setCell ⟨p,3,none⟩ (v3)).setCell ⟨p,4,none⟩ (v4)).setCell ⟨p,5,none⟩ (v5)) A n M :=
  (((((h.off hn _).off hn _).off hn _).off hn _).off hn _).off hn _
theorem cellsP6 {w:World} {p:Nat} {v0 v1 v2 v3 v4 v5 x0 x1 x2 x3 x4 x5:Value} (e0:w.cell? ⟨p,0,none⟩=some x0) (e1:w.cell? ⟨p,1,none⟩=some x1) (e2:w.cell? ⟨p,2,none⟩=some x2) (e3:w.cell? ⟨p,3,none⟩=some x3) (e4:w.cell? ⟨p,4,none⟩=some x4) (e5:w.cell? ⟨p,5,none⟩=some x5) :
    let W:=(((((w.setCell ⟨p,0,none⟩ (v0)).setCell ⟨p,1,none⟩ (v1)).setCell ⟨p,2,none⟩ (v2)).setCell ⟨p,3,none⟩ (v3)).setCell ⟨p,4,none⟩ (v4)).setCell ⟨p,5,none⟩ (v5)
    W.cell? ⟨p,0,none⟩=some v0∧W.cell? ⟨p,1,none⟩=some v1∧W.cell? ⟨p,2,none⟩=some v2∧W.cell? ⟨p,3,none⟩=some v3∧W.cell? ⟨p,4,none⟩=some v4∧W.cell? ⟨p,5,none⟩=some v5 :=
  ⟨cell_set (cell_set (cell_set (cell_set (cell_set (cell_set e0))))),cell_set (cell_set (cell_set (cell_set (cell_set (cell_set e1))))),cell_set (cell_set (cell_set (cell_set (cell_set (cell_set e2))))),cell_set (cell_set (cell_set (cell_set (cell_set (cell_set e3))))),cell_set (cell_set (cell_set (cell_set (cell_set (cell_set e4))))),cell_set (cell_set (cell_set (cell_set (cell_set (cell_set e5)))))⟩
/-- The variable in block p holds a state with the marks X. -/
structure Vp (W:World) (p:Nat) (v q c now seq:Int) (X:List Mrk) (A:Option Addr) (k:Nat):Prop where
  c0:W.cell? ⟨p,0,none⟩=some (.int .i64 v)
  c1:W.cell? ⟨p,1,none⟩=some (.int .i64 q)
  c2:W.cell? ⟨p,2,none⟩=some (.int .i64 c)
  c3:W.cell? ⟨p,3,none⟩=some (.int .i64 now)
  c4:W.cell? ⟨p,4,none⟩=some (.int .i64 seq)
  c5:W.cell? ⟨p,5,none⟩=some (.slice A X.length k)
  sl:SG cM W A X.length X
  off:∀ b o,A=some ⟨b,o,none⟩→b ≠ p
  cap:X.length≤k
theorem Vp.up {W W2:World} {p:Nat} {v q c now seq:Int} {X:List Mrk} {A:Option Addr} {k:Nat} (h:Vp W p v q c now seq X A k) (hu:Up W W2):Vp W2 p v q c now seq X A k :=
  ⟨hu.keep _ _ _ h.c0,hu.keep _ _ _ h.c1,hu.keep _ _ _ h.c2,hu.keep _ _ _ h.c3,hu.keep _ _ _ h.c4,hu.keep _ _ _ h.c5,h.sl.up hu,h.off,h.cap⟩
theorem Vp.lt {W:World} {p:Nat} {v q c now seq:Int} {X:List Mrk} {A:Option Addr} {k:Nat} (h:Vp W p v q c now seq X A k):p<W.heap.size:=World.block_lt_of_cell? _ _ h.c0
/-- A store of a new state into the variable. -/
theorem Vp.put {W:World} {p:Nat} {v q c now seq:Int} {X:List Mrk} {A:Option Addr} {k:Nat} {x0 x1 x2 x3 x4 x5:Value} (e0:W.cell? ⟨p,0,none⟩=some x0) (e1:W.cell? ⟨p,1,none⟩=some x1) (e2:W.cell? ⟨p,2,none⟩=some x2) (e3:W.cell? ⟨p,3,none⟩=some x3) (e4:W.cell? ⟨p,4,none⟩=some x4) (e5:W.cell? ⟨p,5,none⟩=some x5)
    (sl:SG cM W A X.length X) (off:∀ b o,A=some ⟨b,o,none⟩→b ≠ p) (cap:X.length≤k) :
    Vp ((((((W.setCell ⟨p,0,none⟩ (.int .i64 v)).setCell ⟨p,1,none⟩ (.int .i64 q)).setCell ⟨p,2,none⟩ (.int .i64 c)).setCell ⟨p,3,none⟩ (.int .i64 now)).setCell ⟨p,4,none⟩ (.int .i64 seq)).setCell ⟨p,5,none⟩ (.slice A X.length k)) p v q c now seq X A k:=by
  obtain ⟨a0,a1,a2,a3,a4,a5⟩:=cellsP6 (v0:=.int .i64 v) (v1:=.int .i64 q) (v2:=.int .i64 c) (v3:=.int .i64 now) (v4:=.int .i64 seq) (v5:=.slice A X.length k) e0 e1 e2 e3 e4 e5
  exact ⟨a0,a1,a2,a3,a4,a5,sl.offP6 off _ _ _ _ _ _,off,cap⟩
/-- A new variable. -/
theorem Vp.new {W:World} {v q c now seq:Int} {X:List Mrk} {A:Option Addr} {k:Nat} (sl:SG cM W A X.length X) (cap:X.length≤k) (off:∀ b o,A=some ⟨b,o,none⟩→b ≠ W.heap.size) :
    Vp (W.alloc (.cells #[.int .i64 v,.int .i64 q,.int .i64 c,.int .i64 now,.int .i64 seq,.slice A X.length k] 24)) W.heap.size v q c now seq X A k :=
  ⟨by simp [go_sem],by simp [go_sem],by simp [go_sem],by simp [go_sem],by simp [go_sem],by simp [go_sem],sl.up ((Up.refl _).alloc _ _),off,cap⟩
/-- Advance of what a variable holds. -/
theorem advVP {W0 W:World} {v q c now td:Int} {X:List Mrk} {M:List It} {A:Option Addr} {k:Nat} (hs:Sp v q c now X M) (sl:SG cM W0 A X.length X) (cap:X.length≤k) (hu:Up W0 W) (h1:now≤td) (h2:td≤16777216) :
    Calls Tryz.prog 7 #[.agg #[.int .i64 v,.int .i64 q,.int .i64 c,.int .i64 now,.int .i64 M.length,.slice A X.length k],.int .i64 td] W fun e W'=>∃ A' k',e=.returned (.tuple #[.agg #[.int .i64 v,.int .i64 q,.int .i64 c,.int .i64 td,.int .i64 M.length,.slice A' (drM td v X).length k'],.int .i64 0])∧(drM td v X).length≤k'∧Nw W A'∧SG cM W' A' (drM td v X).length (drM td v X)∧Up W W':=by
  have hf:X.length≤50000:=by have:=hs.len;have:=hs.2.1;omega
  refine (adv14_good v q c now M.length td X.length k A X hf cap hs.st h1 h2 W (sl.up hu)).mono ?_
  rintro e W' ⟨A',n',k',rfl,_,hk,hn,hU,hS⟩
  obtain rfl:(drM td v X).length=n':=hS.1
  exact ⟨A',k',rfl,hk,hn,hS,hU⟩
/-- Add of a value for which there is room. -/
theorem addVP {W0 W:World} {v q c now d:Int} {X:List Mrk} {M:List It} {A:Option Addr} {k:Nat} (hs:Sp v q c now X M) (sl:SG cM W0 A X.length X) (cap:X.length≤k) (hu:Up W0 W) (hd:valG 4 d) (hf:fuM c M.length X=false) :
    Calls Tryz.prog 9 #[.agg #[.int .i64 v,.int .i64 q,.int .i64 c,.int .i64 now,.int .i64 M.length,.slice A X.length k],.int .i64 d] W fun e W'=>∃ A' k',e=.returned (.tuple #[.agg #[.int .i64 v,.int .i64 q,.int .i64 c,.int .i64 now,.int .i64 ((M.length:Int)+1),.slice A' (adS q M.length now d X).length k'],.int .i64 0])∧(adS q M.length now d X).length≤k'∧Nw W A'∧SG cM W' A' (adS q M.length now d X).length (adS q M.length now d X)∧Up W W':=by
  have hl:X.length≤50000:=by have:=hs.len;have:=hs.2.1;omega
  refine (add14_good v q c now M.length d X.length k A X hl cap hs.st hd hf W (sl.up hu)).mono ?_
  rintro e W' ⟨A',n',k',rfl,_,hk,hn,hU,hS⟩
  obtain rfl:(adS q M.length now d X).length=n':=hS.1
  exact ⟨A',k',rfl,hk,hn,hS,hU⟩
/-- Add of a value for which there is none. -/
theorem addVP_full {W0 W:World} {v q c now d:Int} {X:List Mrk} {M:List It} {A:Option Addr} {k:Nat} (hs:Sp v q c now X M) (sl:SG cM W0 A X.length X) (cap:X.length≤k) (hu:Up W0 W) (hd:valG 4 d) (hf:fuM c M.length X=true) :
    Calls Tryz.prog 9 #[.agg #[.int .i64 v,.int .i64 q,.int .i64 c,.int .i64 now,.int .i64 M.length,.slice A X.length k],.int .i64 d] W fun e W'=>e=.returned (.tuple #[.agg #[.int .i64 0,.int .i64 0,.int .i64 0,.int .i64 0,.int .i64 0,.slice none 0 0],.int .i64 5])∧Up W W':=by
  have hl:X.length≤50000:=by have:=hs.len;have:=hs.2.1;omega
  exact add14_full v q c now M.length d X.length k A X hl cap hs.st hd hf W (sl.up hu)
/-- Blocks from s on. -/
def Ge (s:Nat) (A:Option Addr):Prop:=∀ b o,A=some ⟨b,o,none⟩→s≤b
theorem Ge.none_ (s:Nat):Ge s none:=fun _ _ e=>by cases e
theorem Sl.out {W:World} {A:Option Addr} {n:Nat} {M:List It} (h:Sl W A n M) (hn:0<n):∃ b o,A=some ⟨b,o,none⟩∧b<W.heap.size:=by
  obtain ⟨b,o,e,d0,_⟩:=h.at_ hn
  exact ⟨b,o,e,World.block_lt_of_cell? _ _ d0⟩
theorem items14_up (n k:Nat) (A:Option Addr) (L:List It) (v:Int) (h1:1≤v) (h2:v≤25) (mx:Nat) (mi:Int) (e:(mx:Int)=mi) (hmx:mx≤200) (w:World) (hS:Sl w A n L) :
    Calls Tryz.prog 18 #[.slice A n k,.int .i64 v,.int .i64 mi] w fun e w'=>∃ A' n' k' M z,e=.returned (.slice A' n' k')∧n'≤mx∧mdT M z∧(∀ j,j<n'→valG 4 (M.getD j (0,0)).2)∧Nw w A'∧Sl w' A' n' M∧Up w w':=by
  subst e
  refine (itemsI_up n k A L v h1 h2 mx hmx w hS).mono ?_
  rintro e1 w1 ⟨A1,n1,k1_,M0,z,rfl,hn1,hP,hO,hu⟩
  have HS1:Sl w1 A1 n1 M0:=by obtain ⟨A9,k9,e9,_,h9⟩:=hO.sl;cases e9;exact h9
  refine ⟨A1,n1,k1_,M0,z,rfl,hn1,hP.t,fun j hj=>?_,hO.nw,HS1,hu⟩
  have:=of_decide_eq_true (show decide (-4096≤(M0.getD j (0,0)).2∧(M0.getD j (0,0)).2≤4096)=true from (hP.2.2 j (by rw [HS1.1];exact hj)).2.2.2)
  exact ⟨this.1,this.2,Or.inr (Or.inr rfl)⟩
theorem Own.putP6 {w0 w:World} {v:Value} {n p:Nat} {L:List It} (h:Own w0 w v n L) (hp:∀ b o k,v=.slice (some ⟨b,o,none⟩) n k→b ≠ p) (y0 y1 y2 y3 y4 y5:Value):Own w0 ((((((w.setCell ⟨p,0,none⟩ (y0)).setCell ⟨p,1,none⟩ (y1)).setCell ⟨p,2,none⟩ (y2)).setCell ⟨p,3,none⟩ (y3)).setCell ⟨p,4,none⟩ (y4)).setCell ⟨p,5,none⟩ (y5)) v n L:=by
  refine ⟨h.1,?_⟩
  rcases h.2 with h0 | ⟨g,cap,cur,h5,h6,h7,h8⟩
  · exact Or.inl h0
  · have hg:g ≠ p:=hp g 0 cap h5
    refine Or.inr ⟨g,cap,cur,h5,h6,?_,h8⟩
    exact (((((Blk.far (t:=45) h7 hg _).far hg _).far hg _).far hg _).far hg _).far hg _
theorem keepP8 {w w1 w2:World} {b0 o0 b1 o1 b2 o2 b3 o3 b4 o4 b5 o5 b6 o6 b7 o7:Nat} {x0 x1 x2 x3 x4 x5 x6 x7:Value} (hu:Hid (Up w1 w2)) (h:Up w w1∧w1.cell? ⟨b0,o0,none⟩=some x0∧w1.cell? ⟨b1,o1,none⟩=some x1∧w1.cell? ⟨b2,o2,none⟩=some x2∧w1.cell? ⟨b3,o3,none⟩=some x3∧w1.cell? ⟨b4,o4,none⟩=some x4∧w1.cell? ⟨b5,o5,none⟩=some x5∧w1.cell? ⟨b6,o6,none⟩=some x6∧w1.cell? ⟨b7,o7,none⟩=some x7):Up w w2∧w2.cell? ⟨b0,o0,none⟩=some x0∧w2.cell? ⟨b1,o1,none⟩=some x1∧w2.cell? ⟨b2,o2,none⟩=some x2∧w2.cell? ⟨b3,o3,none⟩=some x3∧w2.cell? ⟨b4,o4,none⟩=some x4∧w2.cell? ⟨b5,o5,none⟩=some x5∧w2.cell? ⟨b6,o6,none⟩=some x6∧w2.cell? ⟨b7,o7,none⟩=some x7 :=
  ⟨h.1.trans hu.out,hu.out.keep _ _ _ h.2.1,hu.out.keep _ _ _ h.2.2.1,hu.out.keep _ _ _ h.2.2.2.1,hu.out.keep _ _ _ h.2.2.2.2.1,hu.out.keep _ _ _ h.2.2.2.2.2.1,hu.out.keep _ _ _ h.2.2.2.2.2.2.1,hu.out.keep _ _ _ h.2.2.2.2.2.2.2.1,hu.out.keep _ _ _ h.2.2.2.2.2.2.2.2⟩
theorem setP8 {w w1:World} {b0 o0 b1 o1 b2 o2 b3 o3 b4 o4 b5 o5 b6 o6 b7 o7 g o:Nat} {x0 x1 x2 x3 x4 x5 x6 x7 v:Value} (h:Up w w1∧w1.cell? ⟨b0,o0,none⟩=some x0∧w1.cell? ⟨b1,o1,none⟩=some x1∧w1.cell? ⟨b2,o2,none⟩=some x2∧w1.cell? ⟨b3,o3,none⟩=some x3∧w1.cell? ⟨b4,o4,none⟩=some x4∧w1.cell? ⟨b5,o5,none⟩=some x5∧w1.cell? ⟨b6,o6,none⟩=some x6∧w1.cell? ⟨b7,o7,none⟩=some x7) (hg:w.heap.size≤g) (n0:g ≠ b0) (n1:g ≠ b1) (n2:g ≠ b2) (n3:g ≠ b3) (n4:g ≠ b4) (n5:g ≠ b5) (n6:g ≠ b6) (n7:g ≠ b7):Up w (w1.setCell ⟨g,o,none⟩ v)∧(w1.setCell ⟨g,o,none⟩ v).cell? ⟨b0,o0,none⟩=some x0∧(w1.setCell ⟨g,o,none⟩ v).cell? ⟨b1,o1,none⟩=some x1∧(w1.setCell ⟨g,o,none⟩ v).cell? ⟨b2,o2,none⟩=some x2∧(w1.setCell ⟨g,o,none⟩ v).cell? ⟨b3,o3,none⟩=some x3∧(w1.setCell ⟨g,o,none⟩ v).cell? ⟨b4,o4,none⟩=some x4∧(w1.setCell ⟨g,o,none⟩ v).cell? ⟨b5,o5,none⟩=some x5∧(w1.setCell ⟨g,o,none⟩ v).cell? ⟨b6,o6,none⟩=some x6∧(w1.setCell ⟨g,o,none⟩ v).cell? ⟨b7,o7,none⟩=some x7 :=
  ⟨h.1.setCell hg _,(cell_far n0).trans h.2.1,(cell_far n1).trans h.2.2.1,(cell_far n2).trans h.2.2.2.1,(cell_far n3).trans h.2.2.2.2.1,(cell_far n4).trans h.2.2.2.2.2.1,(cell_far n5).trans h.2.2.2.2.2.2.1,(cell_far n6).trans h.2.2.2.2.2.2.2.1,(cell_far n7).trans h.2.2.2.2.2.2.2.2⟩
/-- Where the loop of SpreadTruth is, ahead of the item at place i. -/
def RpM (w wr:World) (p s:Nat) (v q c:Int) (Am:Option Addr) (nm:Nat) (M0:List It) (z:Int) (i:Nat) (sv:Value):Prop :=
  ∃ (now:Int) (X:List Mrk) (M:List It) (A1 B:Option Addr) (k1 kb:Nat),sv=.slice B M.length kb∧Own w wr (.slice B M.length kb) M.length M∧Ge s B∧Vp wr p v q c now M.length X A1 k1∧Sp v q c now X M∧M.length≤i∧(i<nm→now≤(M0.getD i (0,0)).1)∧(0≤now∧now≤z)∧Sl wr Am nm M0∧Up w wr∧s≤wr.heap.size
end Go.Proofs.YtafkoddgefcpnaaGreat

namespace Go.Proofs.YtafkoddgefcpnaaGreat
open Go.RowKit
set_option linter.unusedVariables false

theorem asS_enM {now v:Int} {X:List Mrk} {lo hi:Mrk} (h:asS now v X=some (lo,hi)):enM now v X=(lo,hi):=by
  match X,h with
  | [a],h =>
    simp only [asS] at h
    split at h
    · injection h
    · cases h
  | a :: b :: R,h =>
    simp only [asS] at h
    simp only [enM]
    split at h
    · rename_i hl
      rw [if_pos hl]
      injection h
    · rename_i hl
      rw [if_neg hl]
      split at h
      · rename_i hq
        rw [if_pos hq]
        injection h
      · rename_i hq
        rw [if_neg hq]
        injection h
theorem asS_none {now v:Int} {X:List Mrk} (h:asS now v X=none) (h1:X.length=1→liveB now v (X.getD 0 mk0).t=true):X=[]:=by
  match X,h,h1 with
  | [],_,_=>rfl
  | [a],h,h1 =>
    have hl:liveB now v a.t=true:=h1 rfl
    simp only [asS,if_pos hl] at h
    cases h
  | a :: b :: R,h,_ =>
    simp only [asS] at h
    split at h
    · cases h
    · split at h <;> cases h
theorem wi_zero {q:Int} (h1:1≤q):wiB 0 1 0 1 0 1 q 0 1=true:=by
  have hb:bvB 0 1 0 1 0 1=true:=bvB_mk (valid_one _) (valid_one _) (valid_one _) ((le_of_cmpR (valid_one _) (valid_one _)).2 (by omega)) ((le_of_cmpR (valid_one _) (valid_one _)).2 (by omega))
  rw [wiB_main hb h1 (valid_one _) (Int.le_refl _)]
  refine decide_eq_true ?_
  unfold wdZ
  simp
theorem ho_zero:hoB 0 1 0 1 0 1 0 1=true:=by
  have hb:bvB 0 1 0 1 0 1=true:=bvB_mk (valid_one _) (valid_one _) (valid_one _) ((le_of_cmpR (valid_one _) (valid_one _)).2 (by omega)) ((le_of_cmpR (valid_one _) (valid_one _)).2 (by omega))
  unfold hoB
  rw [hb,valid_one,decide_eq_true ((le_of_cmpR (valid_one 0) (valid_one 0)).2 (by omega))]
  rfl
theorem Sp.ans {v q c now:Int} {X:List Mrk} {M:List It} (h:Sp v q c now X M) (hq:1≤q) :
    hoB (spR (enM now v X).1).1 (spR (enM now v X).1).2 (spR (enM now v X).1).1 (spR (enM now v X).1).2 (spR (enM now v X).2).1 (spR (enM now v X).2).2 (sprN (mlL M now v)) (sprD (mlL M now v))=true ∧
    wiB (spR (enM now v X).1).1 (spR (enM now v X).1).2 (spR (enM now v X).1).1 (spR (enM now v X).1).2 (spR (enM now v X).2).1 (spR (enM now v X).2).2 q (sprN (mlL M now v)) (sprD (mlL M now v))=true ∧
    (In (spR (enM now v X).1).1∧In (spR (enM now v X).1).2)∧(In (spR (enM now v X).2).1∧In (spR (enM now v X).2).2)∧In (sprN (mlL M now v))∧In (sprD (mlL M now v)):=by
  rcases h.truth with ⟨h1,h2⟩ | ⟨lo,hi,h1,m1,m2,_,h3,h4,h5,h6⟩
  · obtain rfl:=asS_none h1 (stP_my h.st).2.1
    rw [h2,show enM now v []=(mk0,mk0) from rfl,spR_0 (show mk0.n=0 from rfl),show sprN []=0 from rfl,show sprD []=1 from rfl]
    exact ⟨ho_zero,wi_zero hq,⟨⟨by decide,by decide⟩,⟨by decide,by decide⟩⟩,⟨⟨by decide,by decide⟩,⟨by decide,by decide⟩⟩,⟨by decide,by decide⟩,⟨by decide,by decide⟩⟩
  · rw [asS_enM h1]
    have v1:=spR_valid (Or.inr m1)
    have v2:=spR_valid (Or.inr m2)
    rw [spR_yes m1] at v1
    rw [spR_yes m2] at v2
    simp only [spR_yes m1,spR_yes m2]
    exact ⟨h3,h4,v1.2,v2.2,h5,h6⟩
theorem few_live {M:List It} {td v:Int} (hl:M.length≤200) (hv:∀ x ∈ M, -4096≤x.2∧x.2≤4096):fewB (mlL M td v)=true:=by
  unfold fewB
  rw [Bool.and_eq_true,decide_eq_true_eq,List.all_eq_true]
  refine ⟨?_,fun x hx=>?_⟩
  · have:=List.length_filter_le (fun x:It=>decide (td - v<x.1) && decide (x.1≤td)) M
    unfold mlL
    omega
  · have:=hv x (List.mem_filter.1 hx).1
    exact decide_eq_true (by omega)
end Go.Proofs.YtafkoddgefcpnaaGreat
