/- The reference of layer 13: Marks. -/
import Derived.Test.YtafkoddgefcpnaaGreatRows
import Derived.Test.YtafkoddgefcpnaaGreatZKFrameq71
import Derived.Test.YtafkoddgefcpnaaGreatZKValq85
namespace Go.Proofs.YtafkoddgefcpnaaGreat
open Go.RowKit
set_option linter.unusedVariables false

set_option maxHeartbeats 40000000 in
set_option maxRecDepth 100000 in
theorem rmarks_one (g v q c now seq:Int) (k:Nat) (A:Option Addr) (X:List Mrk) (hm:mayM g v q c now=true) (hn:1≤50000) (w:World) (hS:SG cM w A 1 X) :
    Calls Tryz.prog 45 #[.slice A 1 k,.int .i64 g,.int .i64 v,.int .i64 c,.int .i64 now,.int .i64 seq] w fun e w'=>e=.returned (.bool (mrkB g v c now seq X))∧Up w w':=by
  by_cases s1:seq<0
  · have e0:mrkB g v c now seq X=false:=by unfold mrkB sqB;rw [decide_eq_false (p:=0≤seq∧seq≤1099511627776) (by omega)];rfl
    rw [e0]
    have t1:decide (seq<0)=true:=decide_eq_true s1
    clear e0 hS hm
    go_enter Tryz.func45,Tryz.ntmps45
    go_wp2_with fail
    go_ret
    exact ⟨rfl,Up.refl _⟩
  by_cases s2:1099511627776<seq
  · have e0:mrkB g v c now seq X=false:=by unfold mrkB sqB;rw [decide_eq_false (p:=0≤seq∧seq≤1099511627776) (by omega)];rfl
    rw [e0]
    have t1:decide (seq<0)=false:=decide_eq_false s1
    have t2:decide (1099511627776<seq)=true:=decide_eq_true s2
    clear e0 hS hm
    go_enter Tryz.func45,Tryz.ntmps45
    go_wp2_with fail
    go_ret
    exact ⟨rfl,Up.refl _⟩
  have hs:0≤seq∧seq≤1099511627776:=by omega
  clear s1 s2
  have hs0:decide (seq<0)=false:=decide_eq_false (by omega)
  have hs1:decide (1099511627776<seq)=false:=decide_eq_false (by omega)
  have HL:=Lib.hid hS.1
  have HS:=Lib.hid hS
  obtain ⟨hg,hm2⟩:=mayM_true hm
  obtain ⟨⟨g1a,g1b⟩,g2,⟨c1,c2⟩,g4⟩:=mayC_facts hm2
  have HB:=Lib.hid (fun j (hj:j<1) (h:¬ OkB g v c now seq X j)=>mrkB_bad (X:=X) (by rw [HL.out];exact hj) h)
  have HT:Hid ((∀ j,j<1→OkB g v c now seq X j)→mrkB g v c now seq X=true):=Lib.hid (fun h=>mrkB_yes hs.1 hs.2 (by rw [HL.out];exact h))
  generalize mrkB g v c now seq X=r at *
  obtain ⟨sA,sB⟩:=hs
  have HG4:=Lib.hid g4
  clear hS hm hm2 g2 g4
  go_enter Tryz.func45,Tryz.ntmps45
  go_wp2_with fail
  go_loopw [24] (fun t wr=>∃ i:Nat,t=.int .i64 i∧i≤1∧Hid (∀ j,j<i→OkB g v c now seq X j)∧Hid (Up w wr)) (fun t _=>1 - (intOf t).toNat)
  case atStart=>exact ⟨0,rfl,Nat.zero_le _,Lib.hid (fun j hj=>absurd hj (Nat.not_lt_zero _)),Lib.hid (Up.refl w)⟩
  case round =>
    obtain ⟨i,rfl,hin,HG,HW⟩:=hrel
    by_cases hi':i<1
    · have HSr:=Lib.hid (HS.out.up HW.out)
      obtain ⟨b,o,rfl,d0,d1,d2,d3,d4,d5,d6⟩:=mrk_at HSr.out mk0 hi'
      have HO:=Lib.hid (fun (h:¬ _)=>HB.out i hi' (fun hk=>h (okB_iff.1 hk)))
      have HA1:=Lib.hid (fun (h:OkB g v c now seq X i)=>(show ∀ j,j<i+1→OkB g v c now seq X j from fun j hj=>by
        rcases Nat.lt_or_ge j i with x | x
        · exact HG.out j x
        · obtain rfl:j=i:=by omega
          exact h))
      have HA1:=Lib.hid (fun h=>HA1.out (okB_iff.2 h))
      rw [HL.out] at HO HA1
      have HP:Hid (∀ p,i=p+1→bdM (X.getD p mk0)∧(X.getD p mk0).n=seq - (X.getD p mk0).sq+1):=Lib.hid (fun p hp=>⟨(HG.out p (by omega)).bd c2 sB,(HG.out p (by omega)).num⟩)
      have HQ:Hid (∀ p,i=p+1→X.getD (i - 1) mk0=X.getD p mk0):=Lib.hid (fun p hp=>by rw [hp];rfl)
      generalize X.getD (i - 1) mk0=P0 at HO HA1 HQ
      generalize X.getD i mk0=M at HO HA1 d0 d1 d2 d3 d4 d5 d6
      obtain ⟨sq,t,nn,s,qq,lo,hi⟩:=M
      simp only at d0 d1 d2 d3 d4 d5 d6 HO HA1
      have f30:(0:Int)≤i:=by omega
      have K1:=Lib.hid (fun w=>(rtick_any t w).mono (fun _ _ h=>And.intro h.1 h.2.symm))
      have K2:=Lib.hid (fun w=>(rlive_any now v t w).mono (fun _ _ h=>And.intro h.1 h.2.symm))
      have K3:=Lib.hid (rvalue13_any g lo)
      have K4:=Lib.hid (rvalue13_any g hi)
      have HLV:Hid (0≤t→t≤now→(liveB now v t=true ↔ now - v<t)):=Lib.hid (fun h1 h2=>⟨fun h=>((live_iff HG4.out h1).1 h).1,fun h=>(live_iff HG4.out h1).2 ⟨h,h2⟩⟩)
      clear HG
      obtain rfl:i=0:=by omega
      simp only [Nat.zero_mul,Nat.add_zero] at d0 d1 d2 d3 d4 d5 d6
      have e0z:((0:Nat):Int)=0:=rfl
      rw [e0z] at f30
      rw [e0z]
      clear e0z
      go_upto_region 6 with fail
      obtain ⟨W5,hW5⟩:∃ y,y=(wr.alloc (.cells #[.int .i64 sq,.int .i64 t,.int .i64 nn,.int .i64 s,.int .i64 qq,.int .i64 lo,.int .i64 hi] 56)):=⟨_,rfl⟩
      rw [← hW5]
      have U5:Hid (Up w W5):=Lib.hid (by rw [hW5];exact HW.out.alloc _ _)
      have e0:W5.cell? ⟨wr.heap.size,0,none⟩=some (.int .i64 sq):=by rw [hW5];simp [go_sem]
      have e1:W5.cell? ⟨wr.heap.size,1,none⟩=some (.int .i64 t):=by rw [hW5];simp [go_sem]
      have e2:W5.cell? ⟨wr.heap.size,2,none⟩=some (.int .i64 nn):=by rw [hW5];simp [go_sem]
      have e3:W5.cell? ⟨wr.heap.size,3,none⟩=some (.int .i64 s):=by rw [hW5];simp [go_sem]
      have e4:W5.cell? ⟨wr.heap.size,4,none⟩=some (.int .i64 qq):=by rw [hW5];simp [go_sem]
      have e5:W5.cell? ⟨wr.heap.size,5,none⟩=some (.int .i64 lo):=by rw [hW5];simp [go_sem]
      have e6:W5.cell? ⟨wr.heap.size,6,none⟩=some (.int .i64 hi):=by rw [hW5];simp [go_sem]
      clear d0 d1 d2 d3 d4 d5 d6 hW5
      by_cases k0:¬ (1≤sq)
      · obtain rfl:r=false:=HO.out (fun h=>by have h0:=h.1;exact absurd h0 k0)
        have uk0:decide (sq<1)=true:=decide_eq_true (by omega)
        clear HO HA1 HP HQ HB HT HSr HLV
        go_quiet (fail)
        go_wp2_with fail
        go_ret
        refine ⟨rfl,?_⟩
        ((repeat (first | (with_reducible exact Up.refl _) | (with_reducible exact U5.out) | (with_reducible refine Up.alloc ?_ _ _) | (with_reducible refine Up.setCell ?_ ?_ _) | (with_reducible refine Up.drewN ?_ _) | (with_reducible refine Up.drew ?_)));all_goals (first | (simp;done) | (simp;omega) | omega))
      have k0:=Classical.not_not.1 k0
      have uk0:decide (sq<1)=false:=decide_eq_false (by omega)
      by_cases k1:¬ (sq≤seq)
      · obtain rfl:r=false:=HO.out (fun h=>by have h0:=h.2.1;exact absurd h0 k1)
        have uk1:decide (seq<sq)=true:=decide_eq_true (by omega)
        clear HO HA1 HP HQ HB HT HSr HLV
        go_quiet (fail)
        go_wp2_with fail
        go_ret
        refine ⟨rfl,?_⟩
        ((repeat (first | (with_reducible exact Up.refl _) | (with_reducible exact U5.out) | (with_reducible refine Up.alloc ?_ _ _) | (with_reducible refine Up.setCell ?_ ?_ _) | (with_reducible refine Up.drewN ?_ _) | (with_reducible refine Up.drew ?_)));all_goals (first | (simp;done) | (simp;omega) | omega))
      have k1:=Classical.not_not.1 k1
      have uk1:decide (seq<sq)=false:=decide_eq_false (by omega)
      have v1:IntKind.i64.wrap (seq - sq)=seq - sq:=by rw [IntKind.wrap_i64];omega
      have v2:IntKind.i64.wrap (seq - sq+1)=seq - sq+1:=by rw [IntKind.wrap_i64];omega
      by_cases k2:¬ (nn=seq - sq+1)
      · obtain rfl:r=false:=HO.out (fun h=>by have h0:=h.2.2.1;exact absurd h0 k2)
        have uk2:(nn != seq - sq+1)=true:=by simp [k2]
        clear HO HA1 HP HQ HB HT HSr HLV
        go_quiet (fail)
        go_wp2_with fail
        go_ret
        refine ⟨rfl,?_⟩
        ((repeat (first | (with_reducible exact Up.refl _) | (with_reducible exact U5.out) | (with_reducible refine Up.alloc ?_ _ _) | (with_reducible refine Up.setCell ?_ ?_ _) | (with_reducible refine Up.drewN ?_ _) | (with_reducible refine Up.drew ?_)));all_goals (first | (simp;done) | (simp;omega) | omega))
      have k2:=Classical.not_not.1 k2
      subst k2
      by_cases k3:¬ ((seq - sq+1)≤c)
      · obtain rfl:r=false:=HO.out (fun h=>by have h0:=h.2.2.2.1;exact absurd h0 k3)
        have uk3:decide (c<seq - sq+1)=true:=decide_eq_true (by omega)
        clear HO HA1 HP HQ HB HT HSr HLV
        go_quiet (fail)
        go_wp2_with fail
        go_ret
        refine ⟨rfl,?_⟩
        ((repeat (first | (with_reducible exact Up.refl _) | (with_reducible exact U5.out) | (with_reducible refine Up.alloc ?_ _ _) | (with_reducible refine Up.setCell ?_ ?_ _) | (with_reducible refine Up.drewN ?_ _) | (with_reducible refine Up.drew ?_)));all_goals (first | (simp;done) | (simp;omega) | omega))
      have k3:=Classical.not_not.1 k3
      have uk3:decide (c<seq - sq+1)=false:=decide_eq_false (by omega)
      go_quiet (fail)
      go_upto_region 8 with fail
      have U7:Hid (Up w (W5.drewN nq)):=Lib.hid (U5.out.drewN _)
      have e0_:(W5.drewN nq).cell? ⟨wr.heap.size,0,none⟩=some (.int .i64 sq):=e0
      have e1_:(W5.drewN nq).cell? ⟨wr.heap.size,1,none⟩=some (.int .i64 t):=e1
      have e2_:(W5.drewN nq).cell? ⟨wr.heap.size,2,none⟩=some (.int .i64 (seq - sq+1)):=e2
      have e3_:(W5.drewN nq).cell? ⟨wr.heap.size,3,none⟩=some (.int .i64 s):=e3
      have e4_:(W5.drewN nq).cell? ⟨wr.heap.size,4,none⟩=some (.int .i64 qq):=e4
      have e5_:(W5.drewN nq).cell? ⟨wr.heap.size,5,none⟩=some (.int .i64 lo):=e5
      have e6_:(W5.drewN nq).cell? ⟨wr.heap.size,6,none⟩=some (.int .i64 hi):=e6
      clear e0 e1 e2 e3 e4 e5 e6 U5
      generalize W5.drewN nq=W7 at *
      have U5:=U7
      clear U7
      by_cases k4:¬ (0≤t)
      · obtain rfl:r=false:=HO.out (fun h=>by have h0:=h.2.2.2.2.2.1;exact absurd h0.1 k4)
        rw [show tickB t=false from decide_eq_false (by omega)] at K1
        clear HO HA1 HP HQ HB HT HSr HLV
        go_quiet (first | (go_at_call 76;refine Calls.quiet_of_same (K1.out _)) | (go_at_call 40;refine Calls.quiet_of_same (K2.out _)))
        go_wp2_with fail
        go_ret
        refine ⟨rfl,?_⟩
        ((repeat (first | (with_reducible exact Up.refl _) | (with_reducible exact U5.out) | (with_reducible refine Up.alloc ?_ _ _) | (with_reducible refine Up.setCell ?_ ?_ _) | (with_reducible refine Up.drewN ?_ _) | (with_reducible refine Up.drew ?_)));all_goals (first | (simp;done) | (simp;omega) | omega))
      have k4:=Classical.not_not.1 k4
      by_cases k5:¬ (t≤16777216)
      · obtain rfl:r=false:=HO.out (fun h=>by have h0:=h.2.2.2.2.2.1;have:=h0.2;omega)
        rw [show tickB t=false from decide_eq_false (by omega)] at K1
        clear HO HA1 HP HQ HB HT HSr HLV
        go_quiet (first | (go_at_call 76;refine Calls.quiet_of_same (K1.out _)) | (go_at_call 40;refine Calls.quiet_of_same (K2.out _)))
        go_wp2_with fail
        go_ret
        refine ⟨rfl,?_⟩
        ((repeat (first | (with_reducible exact Up.refl _) | (with_reducible exact U5.out) | (with_reducible refine Up.alloc ?_ _ _) | (with_reducible refine Up.setCell ?_ ?_ _) | (with_reducible refine Up.drewN ?_ _) | (with_reducible refine Up.drew ?_)));all_goals (first | (simp;done) | (simp;omega) | omega))
      have k5:=Classical.not_not.1 k5
      rw [show tickB t=true from decide_eq_true (by omega)] at K1
      by_cases k6:¬ (t≤now)
      · obtain rfl:r=false:=HO.out (fun h=>by have h0:=h.2.2.2.2.2.1;exact absurd h0.2 k6)
        have uk6:decide (now<t)=true:=decide_eq_true (by omega)
        clear HO HA1 HP HQ HB HT HSr HLV
        go_quiet (first | (go_at_call 76;refine Calls.quiet_of_same (K1.out _)) | (go_at_call 40;refine Calls.quiet_of_same (K2.out _)))
        go_wp2_with fail
        go_ret
        refine ⟨rfl,?_⟩
        ((repeat (first | (with_reducible exact Up.refl _) | (with_reducible exact U5.out) | (with_reducible refine Up.alloc ?_ _ _) | (with_reducible refine Up.setCell ?_ ?_ _) | (with_reducible refine Up.drewN ?_ _) | (with_reducible refine Up.drew ?_)));all_goals (first | (simp;done) | (simp;omega) | omega))
      have k6:=Classical.not_not.1 k6
      have uk6:decide (now<t)=false:=decide_eq_false (by omega)
      by_cases k7:¬ (liveB now v t=true)
      · obtain rfl:r=false:=HO.out (fun h=>by have h0:=h.2.2.2.2.2.2.2.1;exact absurd ((HLV.out k4 k6).2 (h0 (by simp))) k7)
        rw [Bool.not_eq_true] at k7
        rw [k7] at K2
        clear HO HA1 HP HQ HB HT HSr HLV
        go_quiet (first | (go_at_call 76;refine Calls.quiet_of_same (K1.out _)) | (go_at_call 40;refine Calls.quiet_of_same (K2.out _)))
        go_wp2_with fail
        go_ret
        refine ⟨rfl,?_⟩
        ((repeat (first | (with_reducible exact Up.refl _) | (with_reducible exact U5.out) | (with_reducible refine Up.alloc ?_ _ _) | (with_reducible refine Up.setCell ?_ ?_ _) | (with_reducible refine Up.drewN ?_ _) | (with_reducible refine Up.drew ?_)));all_goals (first | (simp;done) | (simp;omega) | omega))
      have k7:=Classical.not_not.1 k7
      rw [k7] at K2
      have hlv:=Lib.hid ((HLV.out k4 k6).1 k7)
      clear k7
      go_quiet (first | (go_at_call 76;refine Calls.quiet_of_same (K1.out _)) | (go_at_call 40;refine Calls.quiet_of_same (K2.out _)))
      go_upto_region 10 with fail
      have K5:Hid (∀ w:World,True):=Lib.hid (fun _=>trivial)
      have K6:Hid (∀ w:World,True):=Lib.hid (fun _=>trivial)
      by_cases k8:¬ (valG g lo)
      · obtain rfl:r=false:=HO.out (fun h=>by have h0:=h.2.2.2.2.2.2.2.2.1;exact absurd h0 k8)
        rw [decide_eq_false k8] at K3
        clear k8
        clear HO HA1 HP HQ HB HT HSr HLV
        go_wp2_with (first | (go_at_call 83;(with_reducible refine (K3.out _).mono ?_);rintro e w' ⟨rfl,rfl⟩) | (go_at_call 83;(with_reducible refine (K4.out _).mono ?_);rintro e w' ⟨rfl,rfl⟩) | (go_at_call 84;(with_reducible refine (K5.out _).mono ?_);rintro e w' ⟨rfl,rfl⟩) | (go_at_call 84;(with_reducible refine (K6.out _).mono ?_);rintro e w' ⟨rfl,rfl⟩))
        go_ret
        refine ⟨rfl,?_⟩
        ((repeat (first | (with_reducible exact Up.refl _) | (with_reducible exact U5.out) | (with_reducible refine Up.alloc ?_ _ _) | (with_reducible refine Up.setCell ?_ ?_ _) | (with_reducible refine Up.drewN ?_ _) | (with_reducible refine Up.drew ?_)));all_goals (first | (simp;done) | (simp;omega) | omega))
      have k8:=Classical.not_not.1 k8
      rw [decide_eq_true k8] at K3
      by_cases k9:¬ (valG g hi)
      · obtain rfl:r=false:=HO.out (fun h=>by have h0:=h.2.2.2.2.2.2.2.2.2.1;exact absurd h0 k9)
        rw [decide_eq_false k9] at K4
        clear k9
        clear HO HA1 HP HQ HB HT HSr HLV
        go_wp2_with (first | (go_at_call 83;(with_reducible refine (K3.out _).mono ?_);rintro e w' ⟨rfl,rfl⟩) | (go_at_call 83;(with_reducible refine (K4.out _).mono ?_);rintro e w' ⟨rfl,rfl⟩) | (go_at_call 84;(with_reducible refine (K5.out _).mono ?_);rintro e w' ⟨rfl,rfl⟩) | (go_at_call 84;(with_reducible refine (K6.out _).mono ?_);rintro e w' ⟨rfl,rfl⟩))
        go_ret
        refine ⟨rfl,?_⟩
        ((repeat (first | (with_reducible exact Up.refl _) | (with_reducible exact U5.out) | (with_reducible refine Up.alloc ?_ _ _) | (with_reducible refine Up.setCell ?_ ?_ _) | (with_reducible refine Up.drewN ?_ _) | (with_reducible refine Up.drew ?_)));all_goals (first | (simp;done) | (simp;omega) | omega))
      have k9:=Classical.not_not.1 k9
      rw [decide_eq_true k9] at K4
      by_cases k10:¬ (lo≤hi)
      · obtain rfl:r=false:=HO.out (fun h=>by have h0:=h.2.2.2.2.2.2.2.2.2.2.1;exact absurd h0 k10)
        have uk10:decide (hi<lo)=true:=decide_eq_true (by omega)
        clear HO HA1 HP HQ HB HT HSr HLV
        go_wp2_with (first | (go_at_call 83;(with_reducible refine (K3.out _).mono ?_);rintro e w' ⟨rfl,rfl⟩) | (go_at_call 83;(with_reducible refine (K4.out _).mono ?_);rintro e w' ⟨rfl,rfl⟩) | (go_at_call 84;(with_reducible refine (K5.out _).mono ?_);rintro e w' ⟨rfl,rfl⟩) | (go_at_call 84;(with_reducible refine (K6.out _).mono ?_);rintro e w' ⟨rfl,rfl⟩))
        go_ret
        refine ⟨rfl,?_⟩
        ((repeat (first | (with_reducible exact Up.refl _) | (with_reducible exact U5.out) | (with_reducible refine Up.alloc ?_ _ _) | (with_reducible refine Up.setCell ?_ ?_ _) | (with_reducible refine Up.drewN ?_ _) | (with_reducible refine Up.drew ?_)));all_goals (first | (simp;done) | (simp;omega) | omega))
      have k10:=Classical.not_not.1 k10
      have uk10:decide (hi<lo)=false:=decide_eq_false (by omega)
      obtain ⟨l1,l2,l3⟩:=k8
      obtain ⟨i1,i2,i3⟩:=k9
      have l3:=Lib.hid l3
      have i3:=Lib.hid i3
      have r1:1≤seq - sq+1:=by omega
      have r2:seq - sq+1≤65536:=by omega
      clear K5
      have K5:=Lib.hid (part13_any (seq - sq+1) s qq lo hi r1 r2 l1 l2 i1 i2)
      have HPB:=Lib.hid (fun h:prtP (seq - sq+1) s qq lo hi=>prt_bd h (by omega) l1 i2)
      have w1:IntKind.i64.wrap (-(seq - sq+1))=-(seq - sq+1):=by rw [IntKind.wrap_i64];omega
      have w2:IntKind.i64.wrap (-(seq - sq+1) * 4096)=-(seq - sq+1) * 4096:=by rw [IntKind.wrap_i64];omega
      have w3:IntKind.i64.wrap ((seq - sq+1) * 4096)=(seq - sq+1) * 4096:=by rw [IntKind.wrap_i64];omega
      have w4:IntKind.i64.wrap ((seq - sq+1) * 4096 * 4096)=(seq - sq+1) * 4096 * 4096:=by rw [IntKind.wrap_i64];omega
      by_cases k11:¬ (-(seq - sq+1) * 4096≤s)
      · obtain rfl:r=false:=HO.out (fun h=>by have h0:=h.2.2.2.2.2.2.2.2.2.2.2.1;have:=HPB.out h0;omega)
        have uk11:decide (s < -(seq - sq+1) * 4096)=true:=decide_eq_true (by omega)
        clear HO HA1 HP HQ HB HT HSr HLV
        go_wp2_with (first | (go_at_call 83;(with_reducible refine (K3.out _).mono ?_);rintro e w' ⟨rfl,rfl⟩) | (go_at_call 83;(with_reducible refine (K4.out _).mono ?_);rintro e w' ⟨rfl,rfl⟩) | (go_at_call 84;(with_reducible refine (K5.out _).mono ?_);rintro e w' ⟨rfl,rfl⟩) | (go_at_call 84;(with_reducible refine (K6.out _).mono ?_);rintro e w' ⟨rfl,rfl⟩))
        go_ret
        refine ⟨rfl,?_⟩
        ((repeat (first | (with_reducible exact Up.refl _) | (with_reducible exact U5.out) | (with_reducible refine Up.alloc ?_ _ _) | (with_reducible refine Up.setCell ?_ ?_ _) | (with_reducible refine Up.drewN ?_ _) | (with_reducible refine Up.drew ?_)));all_goals (first | (simp;done) | (simp;omega) | omega))
      have k11:=Classical.not_not.1 k11
      have uk11:decide (s < -(seq - sq+1) * 4096)=false:=decide_eq_false (by omega)
      by_cases k12:¬ (s≤(seq - sq+1) * 4096)
      · obtain rfl:r=false:=HO.out (fun h=>by have h0:=h.2.2.2.2.2.2.2.2.2.2.2.1;have:=HPB.out h0;omega)
        have uk12:decide ((seq - sq+1) * 4096<s)=true:=decide_eq_true (by omega)
        clear HO HA1 HP HQ HB HT HSr HLV
        go_wp2_with (first | (go_at_call 83;(with_reducible refine (K3.out _).mono ?_);rintro e w' ⟨rfl,rfl⟩) | (go_at_call 83;(with_reducible refine (K4.out _).mono ?_);rintro e w' ⟨rfl,rfl⟩) | (go_at_call 84;(with_reducible refine (K5.out _).mono ?_);rintro e w' ⟨rfl,rfl⟩) | (go_at_call 84;(with_reducible refine (K6.out _).mono ?_);rintro e w' ⟨rfl,rfl⟩))
        go_ret
        refine ⟨rfl,?_⟩
        ((repeat (first | (with_reducible exact Up.refl _) | (with_reducible exact U5.out) | (with_reducible refine Up.alloc ?_ _ _) | (with_reducible refine Up.setCell ?_ ?_ _) | (with_reducible refine Up.drewN ?_ _) | (with_reducible refine Up.drew ?_)));all_goals (first | (simp;done) | (simp;omega) | omega))
      have k12:=Classical.not_not.1 k12
      have uk12:decide ((seq - sq+1) * 4096<s)=false:=decide_eq_false (by omega)
      by_cases k13:¬ (0≤qq)
      · obtain rfl:r=false:=HO.out (fun h=>by have h0:=h.2.2.2.2.2.2.2.2.2.2.2.1;have:=HPB.out h0;omega)
        have uk13:decide (qq<0)=true:=decide_eq_true (by omega)
        clear HO HA1 HP HQ HB HT HSr HLV
        go_wp2_with (first | (go_at_call 83;(with_reducible refine (K3.out _).mono ?_);rintro e w' ⟨rfl,rfl⟩) | (go_at_call 83;(with_reducible refine (K4.out _).mono ?_);rintro e w' ⟨rfl,rfl⟩) | (go_at_call 84;(with_reducible refine (K5.out _).mono ?_);rintro e w' ⟨rfl,rfl⟩) | (go_at_call 84;(with_reducible refine (K6.out _).mono ?_);rintro e w' ⟨rfl,rfl⟩))
        go_ret
        refine ⟨rfl,?_⟩
        ((repeat (first | (with_reducible exact Up.refl _) | (with_reducible exact U5.out) | (with_reducible refine Up.alloc ?_ _ _) | (with_reducible refine Up.setCell ?_ ?_ _) | (with_reducible refine Up.drewN ?_ _) | (with_reducible refine Up.drew ?_)));all_goals (first | (simp;done) | (simp;omega) | omega))
      have k13:=Classical.not_not.1 k13
      have uk13:decide (qq<0)=false:=decide_eq_false (by omega)
      by_cases k14:¬ (qq≤(seq - sq+1) * 4096 * 4096)
      · obtain rfl:r=false:=HO.out (fun h=>by have h0:=h.2.2.2.2.2.2.2.2.2.2.2.1;have:=HPB.out h0;omega)
        have uk14:decide ((seq - sq+1) * 4096 * 4096<qq)=true:=decide_eq_true (by omega)
        clear HO HA1 HP HQ HB HT HSr HLV
        go_wp2_with (first | (go_at_call 83;(with_reducible refine (K3.out _).mono ?_);rintro e w' ⟨rfl,rfl⟩) | (go_at_call 83;(with_reducible refine (K4.out _).mono ?_);rintro e w' ⟨rfl,rfl⟩) | (go_at_call 84;(with_reducible refine (K5.out _).mono ?_);rintro e w' ⟨rfl,rfl⟩) | (go_at_call 84;(with_reducible refine (K6.out _).mono ?_);rintro e w' ⟨rfl,rfl⟩))
        go_ret
        refine ⟨rfl,?_⟩
        ((repeat (first | (with_reducible exact Up.refl _) | (with_reducible exact U5.out) | (with_reducible refine Up.alloc ?_ _ _) | (with_reducible refine Up.setCell ?_ ?_ _) | (with_reducible refine Up.drewN ?_ _) | (with_reducible refine Up.drew ?_)));all_goals (first | (simp;done) | (simp;omega) | omega))
      have k14:=Classical.not_not.1 k14
      have uk14:decide ((seq - sq+1) * 4096 * 4096<qq)=false:=decide_eq_false (by omega)
      by_cases k15:¬ (prtP (seq - sq+1) s qq lo hi)
      · obtain rfl:r=false:=HO.out (fun h=>by have h0:=h.2.2.2.2.2.2.2.2.2.2.2.1;exact absurd h0 k15)
        rw [decide_eq_false k15] at K5
        clear k15
        clear HO HA1 HP HQ HB HT HSr HLV
        go_wp2_with (first | (go_at_call 83;(with_reducible refine (K3.out _).mono ?_);rintro e w' ⟨rfl,rfl⟩) | (go_at_call 83;(with_reducible refine (K4.out _).mono ?_);rintro e w' ⟨rfl,rfl⟩) | (go_at_call 84;(with_reducible refine (K5.out _).mono ?_);rintro e w' ⟨rfl,rfl⟩) | (go_at_call 84;(with_reducible refine (K6.out _).mono ?_);rintro e w' ⟨rfl,rfl⟩))
        go_ret
        refine ⟨rfl,?_⟩
        ((repeat (first | (with_reducible exact Up.refl _) | (with_reducible exact U5.out) | (with_reducible refine Up.alloc ?_ _ _) | (with_reducible refine Up.setCell ?_ ?_ _) | (with_reducible refine Up.drewN ?_ _) | (with_reducible refine Up.drew ?_)));all_goals (first | (simp;done) | (simp;omega) | omega))
      have k15:=Classical.not_not.1 k15
      rw [decide_eq_true k15] at K5
      have hpr:=Lib.hid k15
      clear k15
      go_upto_region 12 with (first | (go_at_call 83;(with_reducible refine (K3.out _).mono ?_);rintro e w' ⟨rfl,rfl⟩) | (go_at_call 83;(with_reducible refine (K4.out _).mono ?_);rintro e w' ⟨rfl,rfl⟩) | (go_at_call 84;(with_reducible refine (K5.out _).mono ?_);rintro e w' ⟨rfl,rfl⟩) | (go_at_call 84;(with_reducible refine (K6.out _).mono ?_);rintro e w' ⟨rfl,rfl⟩))
      have y1_:=sq_bd (x:=s) (m:=268435456) (by omega) (by omega)
      have y2_:=sq_nn s
      have w5:IntKind.i64.wrap (s * s)=s * s:=by rw [IntKind.wrap_i64];omega
      by_cases k16:¬ (sq=seq)
      · obtain rfl:r=false:=HO.out (fun h=>by have h0:=h.2.2.2.2.2.2.2.2.2.2.2.2.1;exact absurd (h0 (by first | trivial | omega)).1 k16)
        have uk16:(sq != seq)=true:=by simp [k16]
        clear HO HA1 HP HQ HB HT HSr HLV
        go_wp2_with fail
        go_ret
        refine ⟨rfl,?_⟩
        ((repeat (first | (with_reducible exact Up.refl _) | (with_reducible exact U5.out) | (with_reducible refine Up.alloc ?_ _ _) | (with_reducible refine Up.setCell ?_ ?_ _) | (with_reducible refine Up.drewN ?_ _) | (with_reducible refine Up.drew ?_)));all_goals (first | (simp;done) | (simp;omega) | omega))
      have k16:=Classical.not_not.1 k16
      have uk16:(sq != seq)=false:=by simp [k16]
      have k16:=Lib.hid k16
      by_cases k17:¬ (lo=s)
      · obtain rfl:r=false:=HO.out (fun h=>by have h0:=h.2.2.2.2.2.2.2.2.2.2.2.2.1;exact absurd (h0 (by first | trivial | omega)).2.1 k17)
        have uk17:(lo != s)=true:=by simp [k17]
        clear HO HA1 HP HQ HB HT HSr HLV
        go_wp2_with fail
        go_ret
        refine ⟨rfl,?_⟩
        ((repeat (first | (with_reducible exact Up.refl _) | (with_reducible exact U5.out) | (with_reducible refine Up.alloc ?_ _ _) | (with_reducible refine Up.setCell ?_ ?_ _) | (with_reducible refine Up.drewN ?_ _) | (with_reducible refine Up.drew ?_)));all_goals (first | (simp;done) | (simp;omega) | omega))
      have k17:=Classical.not_not.1 k17
      have uk17:(lo != s)=false:=by simp [k17]
      have k17:=Lib.hid k17
      by_cases k18:¬ (hi=s)
      · obtain rfl:r=false:=HO.out (fun h=>by have h0:=h.2.2.2.2.2.2.2.2.2.2.2.2.1;exact absurd (h0 (by first | trivial | omega)).2.2.1 k18)
        have uk18:(hi != s)=true:=by simp [k18]
        clear HO HA1 HP HQ HB HT HSr HLV
        go_wp2_with fail
        go_ret
        refine ⟨rfl,?_⟩
        ((repeat (first | (with_reducible exact Up.refl _) | (with_reducible exact U5.out) | (with_reducible refine Up.alloc ?_ _ _) | (with_reducible refine Up.setCell ?_ ?_ _) | (with_reducible refine Up.drewN ?_ _) | (with_reducible refine Up.drew ?_)));all_goals (first | (simp;done) | (simp;omega) | omega))
      have k18:=Classical.not_not.1 k18
      have uk18:(hi != s)=false:=by simp [k18]
      have k18:=Lib.hid k18
      by_cases k19:¬ (qq=s * s)
      · obtain rfl:r=false:=HO.out (fun h=>by have h0:=h.2.2.2.2.2.2.2.2.2.2.2.2.1;exact absurd (h0 (by first | trivial | omega)).2.2.2 k19)
        have uk19:(qq != s * s)=true:=by simp [k19]
        clear HO HA1 HP HQ HB HT HSr HLV
        go_wp2_with fail
        go_ret
        refine ⟨rfl,?_⟩
        ((repeat (first | (with_reducible exact Up.refl _) | (with_reducible exact U5.out) | (with_reducible refine Up.alloc ?_ _ _) | (with_reducible refine Up.setCell ?_ ?_ _) | (with_reducible refine Up.drewN ?_ _) | (with_reducible refine Up.drew ?_)));all_goals (first | (simp;done) | (simp;omega) | omega))
      have k19:=Classical.not_not.1 k19
      have uk19:(qq != s * s)=false:=by simp [k19]
      have k19:=Lib.hid k19
      have HA2:=Lib.hid (HA1.out ⟨k0,k1,(by first | rfl | trivial),k3,fun h=>absurd h (Nat.lt_irrefl 0),⟨k4,k6⟩,fun h=>absurd h (Nat.lt_irrefl 0),fun _=>hlv.out,⟨l1,l2,l3.out⟩,⟨i1,i2,i3.out⟩,k10,hpr.out,fun _=>⟨k16.out,k17.out,k18.out,k19.out⟩,fun h=>absurd h (Nat.lt_irrefl 0),fun h=>absurd h (Nat.lt_irrefl 0),fun h=>absurd h (Nat.lt_irrefl 0)⟩)
      clear HO HA1 HP HQ HB HT HSr HLV
      go_wp2_with fail
      go_roundw
      case rel=>exact ⟨0+1,by go_num,by omega,HA2,Lib.hid (by ((repeat (first | (with_reducible exact Up.refl _) | (with_reducible exact U5.out) | (with_reducible refine Up.alloc ?_ _ _) | (with_reducible refine Up.setCell ?_ ?_ _) | (with_reducible refine Up.drewN ?_ _) | (with_reducible refine Up.drew ?_)));all_goals (first | (simp;done) | (simp;omega) | omega)))⟩
      case measure=>simp [intOf]
    · obtain rfl:i=1:=by omega
      obtain rfl:r=true:=HT.out HG.out
      clear HT HB HG
      go_wp2_with fail
      go_ret
      exact ⟨rfl,HW.out⟩

end Go.Proofs.YtafkoddgefcpnaaGreat
