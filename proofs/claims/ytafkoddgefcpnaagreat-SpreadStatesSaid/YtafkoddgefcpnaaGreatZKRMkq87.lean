/- Texts of these claims, one after the other. -/
import Derived.Test.YtafkoddgefcpnaaGreatRows
import Derived.Test.YtafkoddgefcpnaaGreatZKFnRq95
import Derived.Test.YtafkoddgefcpnaaGreatZKRMaq86
namespace Go.Proofs.YtafkoddgefcpnaaGreat
open Go.RowKit
set_option linter.unusedVariables false

set_option maxHeartbeats 40000000 in
set_option maxRecDepth 100000 in
theorem rmarks_up (g v q c now seq:Int) (n k:Nat) (A:Option Addr) (X:List Mrk) (hm:mayM g v q c now=true) (hn:n≤50000) (w:World) (hS:SG cM w A n X) :
    Calls Tryz.prog 45 #[.slice A n k,.int .i64 g,.int .i64 v,.int .i64 c,.int .i64 now,.int .i64 seq] w fun e w'=>e=.returned (.bool (mrkB g v c now seq X))∧Up w w':=by
  by_cases hn1:n=1
  · subst hn1
    exact rmarks_one g v q c now seq k A X hm hn w hS
  by_cases s1:seq<0
  · have e0:mrkB g v c now seq X=false:=by unfold mrkB sqB;rw [decide_eq_false (p:=0≤seq∧seq≤1099511627776) (by omega)];rfl
    rw [e0]
    have t1:decide (seq<0)=true:=decide_eq_true s1
    clear e0 hS hm hn1
    go_enter Tryz.func45,Tryz.ntmps45
    go_wp2_with fail
    go_ret
    exact ⟨rfl,Up.refl _⟩
  by_cases s2:1099511627776<seq
  · have e0:mrkB g v c now seq X=false:=by unfold mrkB sqB;rw [decide_eq_false (p:=0≤seq∧seq≤1099511627776) (by omega)];rfl
    rw [e0]
    have t1:decide (seq<0)=false:=decide_eq_false s1
    have t2:decide (1099511627776<seq)=true:=decide_eq_true s2
    clear e0 hS hm hn1
    go_enter Tryz.func45,Tryz.ntmps45
    go_wp2_with fail
    go_ret
    exact ⟨rfl,Up.refl _⟩
  have hs:0≤seq∧seq≤1099511627776:=by omega
  have HN1:Hid (¬ n=1):=Lib.hid hn1
  have nz:(0:Int) ≠ (n:Int) - 1:=by omega
  have nzb:((0:Int) == (n:Int) - 1)=false:=beq_eq_false_iff_ne.2 nz
  have n1b:((n:Int) == 1)=false:=beq_eq_false_iff_ne.2 (by omega)
  have n1d:decide (n=1)=false:=decide_eq_false hn1
  clear hn1 s1 s2
  have hs0:decide (seq<0)=false:=decide_eq_false (by omega)
  have hs1:decide (1099511627776<seq)=false:=decide_eq_false (by omega)
  have HL:=Lib.hid hS.1
  have HS:=Lib.hid hS
  obtain ⟨hg,hm2⟩:=mayM_true hm
  obtain ⟨⟨g1a,g1b⟩,g2,⟨c1,c2⟩,g4⟩:=mayC_facts hm2
  have HB:=Lib.hid (fun j (hj:j<n) (h:¬ OkB g v c now seq X j)=>mrkB_bad (X:=X) (by rw [HL.out];exact hj) h)
  have HT:Hid ((∀ j,j<n→OkB g v c now seq X j)→mrkB g v c now seq X=true):=Lib.hid (fun h=>mrkB_yes hs.1 hs.2 (by rw [HL.out];exact h))
  generalize mrkB g v c now seq X=r at *
  obtain ⟨sA,sB⟩:=hs
  have HG4:=Lib.hid g4
  clear hS hm hm2 g2 g4
  go_enter Tryz.func45,Tryz.ntmps45
  go_wp2_with fail
  go_loopw [24] (fun t wr=>∃ i:Nat,t=.int .i64 i∧i≤n∧Hid (∀ j,j<i→OkB g v c now seq X j)∧Hid (Up w wr)) (fun t _=>n - (intOf t).toNat)
  case atStart=>exact ⟨0,rfl,Nat.zero_le _,Lib.hid (fun j hj=>absurd hj (Nat.not_lt_zero _)),Lib.hid (Up.refl w)⟩
  case round =>
    obtain ⟨i,rfl,hin,HG,HW⟩:=hrel
    by_cases hi':i<n
    · have HSr:=Lib.hid (HS.out.up HW.out)
      obtain ⟨b,o,rfl,d0,d1,d2,d3,d4,d5,d6⟩:=mrk_at HSr.out mk0 hi'
      have HO:=Lib.hid (fun (h:¬ _)=>HB.out i hi' (fun hk=>h (okB_iff.1 hk)))
      have HA1:=Lib.hid (fun (h:OkB g v c now seq X i)=>(show ∀ j,j<i+1→OkB g v c now seq X j from fun j hj=>by
        rcases Nat.lt_or_ge j i with x | x
        · exact HG.out j x
        · obtain rfl:j=i:=by omega
          exact h))
      have HA1:=Lib.hid (fun h=>HA1.out (okB_iff.2 h))
      rw [HL.out] at HO HA1
      have HP:Hid (∀ p,i=p+1→bdM (X.getD p mk0)∧(X.getD p mk0).n=seq - (X.getD p mk0).sq+1):=Lib.hid (fun p hp=>⟨(HG.out p (by omega)).bd c2 sB,(HG.out p (by omega)).num⟩)
      have HQ:Hid (∀ p,i=p+1→X.getD (i - 1) mk0=X.getD p mk0):=Lib.hid (fun p hp=>by rw [hp];rfl)
      generalize X.getD (i - 1) mk0=P0 at HO HA1 HQ
      generalize X.getD i mk0=M at HO HA1 d0 d1 d2 d3 d4 d5 d6
      obtain ⟨sq,t,nn,s,qq,lo,hi⟩:=M
      simp only at d0 d1 d2 d3 d4 d5 d6 HO HA1
      have f20:(i:Int)<n:=by omega
      have f30:(0:Int)≤i:=by omega
      have K1:=Lib.hid (fun w=>(rtick_any t w).mono (fun _ _ h=>And.intro h.1 h.2.symm))
      have K2:=Lib.hid (fun w=>(rlive_any now v t w).mono (fun _ _ h=>And.intro h.1 h.2.symm))
      have K3:=Lib.hid (rvalue13_any g lo)
      have K4:=Lib.hid (rvalue13_any g hi)
      have HLV:Hid (0≤t→t≤now→(liveB now v t=true ↔ now - v<t)):=Lib.hid (fun h1 h2=>⟨fun h=>((live_iff HG4.out h1).1 h).1,fun h=>(live_iff HG4.out h1).2 ⟨h,h2⟩⟩)
      clear HG
      by_cases h0i:i=0
      · subst h0i
        simp only [Nat.zero_mul,Nat.add_zero] at d0 d1 d2 d3 d4 d5 d6
        have e0z:((0:Nat):Int)=0:=rfl
        rw [e0z] at f20 f30
        rw [e0z]
        clear e0z
        go_upto_region 6 with fail
        obtain ⟨W5,hW5⟩:∃ y,y=(wr.alloc (.cells #[.int .i64 sq,.int .i64 t,.int .i64 nn,.int .i64 s,.int .i64 qq,.int .i64 lo,.int .i64 hi] 56)):=⟨_,rfl⟩
        rw [← hW5]
        have U5:Hid (Up w W5):=Lib.hid (by rw [hW5];exact HW.out.alloc _ _)
        have e0:W5.cell? ⟨wr.heap.size,0,none⟩=some (.int .i64 sq):=by rw [hW5];simp [go_sem]
        have e1:W5.cell? ⟨wr.heap.size,1,none⟩=some (.int .i64 t):=by rw [hW5];simp [go_sem]
        have e2:W5.cell? ⟨wr.heap.size,2,none⟩=some (.int .i64 nn):=by rw [hW5];simp [go_sem]
        have e3:W5.cell? ⟨wr.heap.size,3,none⟩=some (.int .i64 s):=by rw [hW5];simp [go_sem]
        have e4:W5.cell? ⟨wr.heap.size,4,none⟩=some (.int .i64 qq):=by rw [hW5];simp [go_sem]
        have e5:W5.cell? ⟨wr.heap.size,5,none⟩=some (.int .i64 lo):=by rw [hW5];simp [go_sem]
        have e6:W5.cell? ⟨wr.heap.size,6,none⟩=some (.int .i64 hi):=by rw [hW5];simp [go_sem]
        clear d0 d1 d2 d3 d4 d5 d6 hW5
        go_cut [68] from 29 to 68 (fun tb wx=>∃ bb:Bool,tb=.bool bb∧Hid (bb=false→1≤sq∧sq≤seq∧nn=seq - sq+1∧nn≤c)∧Hid (bb=true→r=false)∧Hid (Up w wx∧wx.cell? ⟨wr.heap.size,0,none⟩=some (.int .i64 sq)∧wx.cell? ⟨wr.heap.size,1,none⟩=some (.int .i64 t)∧wx.cell? ⟨wr.heap.size,2,none⟩=some (.int .i64 nn)∧wx.cell? ⟨wr.heap.size,3,none⟩=some (.int .i64 s)∧wx.cell? ⟨wr.heap.size,4,none⟩=some (.int .i64 qq)∧wx.cell? ⟨wr.heap.size,5,none⟩=some (.int .i64 lo)∧wx.cell? ⟨wr.heap.size,6,none⟩=some (.int .i64 hi)))
        case first =>
          as_aux_lemma =>
            by_cases k0:¬ (1≤sq)
            · have hr:Hid (r=false):=Lib.hid (HO.out (fun h=>by have h0:=h.1;exact absurd h0 k0))
              have uk0:decide (sq<1)=true:=decide_eq_true (by omega)
              (try clear HO HA1 HP HQ HB HT HSr HLV)
              go_quiet (fail)
              go_wp2_with fail
              go_meet
              exact ⟨true,rfl,Lib.hid (fun h=>absurd h (by decide)),Lib.hid (fun _=>hr.out),Lib.hid ⟨(by ((repeat (first | (with_reducible exact Up.refl _) | (with_reducible exact U5.out) | (with_reducible refine Up.alloc ?_ _ _) | (with_reducible refine Up.setCell ?_ ?_ _) | (with_reducible refine Up.drewN ?_ _) | (with_reducible refine Up.drew ?_)));all_goals (first | (simp;done) | (simp;omega) | omega))),e0,e1,e2,e3,e4,e5,e6⟩⟩
            have k0:=Classical.not_not.1 k0
            have uk0:decide (sq<1)=false:=decide_eq_false (by omega)
            by_cases k1:¬ (sq≤seq)
            · have hr:Hid (r=false):=Lib.hid (HO.out (fun h=>by have h0:=h.2.1;exact absurd h0 k1))
              have uk1:decide (seq<sq)=true:=decide_eq_true (by omega)
              (try clear HO HA1 HP HQ HB HT HSr HLV)
              go_quiet (fail)
              go_wp2_with fail
              go_meet
              exact ⟨true,rfl,Lib.hid (fun h=>absurd h (by decide)),Lib.hid (fun _=>hr.out),Lib.hid ⟨(by ((repeat (first | (with_reducible exact Up.refl _) | (with_reducible exact U5.out) | (with_reducible refine Up.alloc ?_ _ _) | (with_reducible refine Up.setCell ?_ ?_ _) | (with_reducible refine Up.drewN ?_ _) | (with_reducible refine Up.drew ?_)));all_goals (first | (simp;done) | (simp;omega) | omega))),e0,e1,e2,e3,e4,e5,e6⟩⟩
            have k1:=Classical.not_not.1 k1
            have uk1:decide (seq<sq)=false:=decide_eq_false (by omega)
            have v1:IntKind.i64.wrap (seq - sq)=seq - sq:=by rw [IntKind.wrap_i64];omega
            have v2:IntKind.i64.wrap (seq - sq+1)=seq - sq+1:=by rw [IntKind.wrap_i64];omega
            by_cases k2:¬ (nn=seq - sq+1)
            · have hr:Hid (r=false):=Lib.hid (HO.out (fun h=>by have h0:=h.2.2.1;exact absurd h0 k2))
              have uk2:(nn != seq - sq+1)=true:=by simp [k2]
              (try clear HO HA1 HP HQ HB HT HSr HLV)
              go_quiet (fail)
              go_wp2_with fail
              go_meet
              exact ⟨true,rfl,Lib.hid (fun h=>absurd h (by decide)),Lib.hid (fun _=>hr.out),Lib.hid ⟨(by ((repeat (first | (with_reducible exact Up.refl _) | (with_reducible exact U5.out) | (with_reducible refine Up.alloc ?_ _ _) | (with_reducible refine Up.setCell ?_ ?_ _) | (with_reducible refine Up.drewN ?_ _) | (with_reducible refine Up.drew ?_)));all_goals (first | (simp;done) | (simp;omega) | omega))),e0,e1,e2,e3,e4,e5,e6⟩⟩
            have k2:=Classical.not_not.1 k2
            subst k2
            by_cases k3:¬ ((seq - sq+1)≤c)
            · have hr:Hid (r=false):=Lib.hid (HO.out (fun h=>by have h0:=h.2.2.2.1;exact absurd h0 k3))
              have uk3:decide (c<seq - sq+1)=true:=decide_eq_true (by omega)
              (try clear HO HA1 HP HQ HB HT HSr HLV)
              go_quiet (fail)
              go_wp2_with fail
              go_meet
              exact ⟨true,rfl,Lib.hid (fun h=>absurd h (by decide)),Lib.hid (fun _=>hr.out),Lib.hid ⟨(by ((repeat (first | (with_reducible exact Up.refl _) | (with_reducible exact U5.out) | (with_reducible refine Up.alloc ?_ _ _) | (with_reducible refine Up.setCell ?_ ?_ _) | (with_reducible refine Up.drewN ?_ _) | (with_reducible refine Up.drew ?_)));all_goals (first | (simp;done) | (simp;omega) | omega))),e0,e1,e2,e3,e4,e5,e6⟩⟩
            have k3:=Classical.not_not.1 k3
            have uk3:decide (c<seq - sq+1)=false:=decide_eq_false (by omega)
            go_quiet (fail)
            go_wp2_with fail
            go_meet
            exact ⟨false,rfl,Lib.hid (fun _=>⟨k0,k1,(by first | exact trivial | rfl),k3⟩),Lib.hid (fun h=>absurd h Bool.false_ne_true),Lib.hid ⟨(by ((repeat (first | (with_reducible exact Up.refl _) | (with_reducible exact U5.out) | (with_reducible refine Up.alloc ?_ _ _) | (with_reducible refine Up.setCell ?_ ?_ _) | (with_reducible refine Up.drewN ?_ _) | (with_reducible refine Up.drew ?_)));all_goals (first | (simp;done) | (simp;omega) | omega))),e0,e1,e2,e3,e4,e5,e6⟩⟩
        case rest =>
          (try clear U5)
          (try clear e0 e1 e2 e3 e4 e5 e6)
          obtain ⟨bb,rfl,HGd,HBd,HSx⟩:=hcut
          cases bb with
          | true =>
            obtain rfl:r=false:=HBd.out rfl
            clear HGd HBd
            clear HO HA1 HP HQ HB HT HSr HLV
            go_wp2_with fail
            go_ret
            exact ⟨rfl,HSx.out.1⟩
          | false =>
            clear HBd
            obtain ⟨u5,e0,e1,e2,e3,e4,e5,e6⟩:=HSx.out
            have U5:=Lib.hid u5
            clear u5 HSx
            obtain ⟨g0,g1,g2,g3⟩:=HGd.out rfl
            have r1:1≤nn:=by omega
            have r2:nn≤65536:=by omega
            have G2:=Lib.hid g2
            clear HGd g2
            go_upto_region 8 with fail
            go_cut [110] from 69 to 110 (fun tb wx=>∃ bb:Bool,tb=.bool bb∧Hid (bb=false→0≤t∧t≤now)∧Hid (bb=true→r=false)∧Hid (Up w wx∧wx.cell? ⟨wr.heap.size,0,none⟩=some (.int .i64 sq)∧wx.cell? ⟨wr.heap.size,1,none⟩=some (.int .i64 t)∧wx.cell? ⟨wr.heap.size,2,none⟩=some (.int .i64 nn)∧wx.cell? ⟨wr.heap.size,3,none⟩=some (.int .i64 s)∧wx.cell? ⟨wr.heap.size,4,none⟩=some (.int .i64 qq)∧wx.cell? ⟨wr.heap.size,5,none⟩=some (.int .i64 lo)∧wx.cell? ⟨wr.heap.size,6,none⟩=some (.int .i64 hi)))
            case first =>
              as_aux_lemma =>
                by_cases k4:¬ (0≤t)
                · have hr:Hid (r=false):=Lib.hid (HO.out (fun h=>by have h0:=h.2.2.2.2.2.1;exact absurd h0.1 k4))
                  rw [show tickB t=false from decide_eq_false (by omega)] at K1
                  (try clear HO HA1 HP HQ HB HT HSr HLV)
                  go_quiet (first | (go_at_call 76;refine Calls.quiet_of_same (K1.out _)) | (go_at_call 40;refine Calls.quiet_of_same (K2.out _)))
                  go_wp2_with fail
                  go_meet
                  exact ⟨true,rfl,Lib.hid (fun h=>absurd h (by decide)),Lib.hid (fun _=>hr.out),Lib.hid ⟨(by ((repeat (first | (with_reducible exact Up.refl _) | (with_reducible exact U5.out) | (with_reducible refine Up.alloc ?_ _ _) | (with_reducible refine Up.setCell ?_ ?_ _) | (with_reducible refine Up.drewN ?_ _) | (with_reducible refine Up.drew ?_)));all_goals (first | (simp;done) | (simp;omega) | omega))),e0,e1,e2,e3,e4,e5,e6⟩⟩
                have k4:=Classical.not_not.1 k4
                by_cases k5:¬ (t≤16777216)
                · have hr:Hid (r=false):=Lib.hid (HO.out (fun h=>by have h0:=h.2.2.2.2.2.1;have:=h0.2;omega))
                  rw [show tickB t=false from decide_eq_false (by omega)] at K1
                  (try clear HO HA1 HP HQ HB HT HSr HLV)
                  go_quiet (first | (go_at_call 76;refine Calls.quiet_of_same (K1.out _)) | (go_at_call 40;refine Calls.quiet_of_same (K2.out _)))
                  go_wp2_with fail
                  go_meet
                  exact ⟨true,rfl,Lib.hid (fun h=>absurd h (by decide)),Lib.hid (fun _=>hr.out),Lib.hid ⟨(by ((repeat (first | (with_reducible exact Up.refl _) | (with_reducible exact U5.out) | (with_reducible refine Up.alloc ?_ _ _) | (with_reducible refine Up.setCell ?_ ?_ _) | (with_reducible refine Up.drewN ?_ _) | (with_reducible refine Up.drew ?_)));all_goals (first | (simp;done) | (simp;omega) | omega))),e0,e1,e2,e3,e4,e5,e6⟩⟩
                have k5:=Classical.not_not.1 k5
                rw [show tickB t=true from decide_eq_true (by omega)] at K1
                by_cases k6:¬ (t≤now)
                · have hr:Hid (r=false):=Lib.hid (HO.out (fun h=>by have h0:=h.2.2.2.2.2.1;exact absurd h0.2 k6))
                  have uk6:decide (now<t)=true:=decide_eq_true (by omega)
                  (try clear HO HA1 HP HQ HB HT HSr HLV)
                  go_quiet (first | (go_at_call 76;refine Calls.quiet_of_same (K1.out _)) | (go_at_call 40;refine Calls.quiet_of_same (K2.out _)))
                  go_wp2_with fail
                  go_meet
                  exact ⟨true,rfl,Lib.hid (fun h=>absurd h (by decide)),Lib.hid (fun _=>hr.out),Lib.hid ⟨(by ((repeat (first | (with_reducible exact Up.refl _) | (with_reducible exact U5.out) | (with_reducible refine Up.alloc ?_ _ _) | (with_reducible refine Up.setCell ?_ ?_ _) | (with_reducible refine Up.drewN ?_ _) | (with_reducible refine Up.drew ?_)));all_goals (first | (simp;done) | (simp;omega) | omega))),e0,e1,e2,e3,e4,e5,e6⟩⟩
                have k6:=Classical.not_not.1 k6
                have uk6:decide (now<t)=false:=decide_eq_false (by omega)
                go_quiet (first | (go_at_call 76;refine Calls.quiet_of_same (K1.out _)) | (go_at_call 40;refine Calls.quiet_of_same (K2.out _)))
                go_wp2_with fail
                go_meet
                exact ⟨false,rfl,Lib.hid (fun _=>⟨k4,k6⟩),Lib.hid (fun h=>absurd h Bool.false_ne_true),Lib.hid ⟨(by ((repeat (first | (with_reducible exact Up.refl _) | (with_reducible exact U5.out) | (with_reducible refine Up.alloc ?_ _ _) | (with_reducible refine Up.setCell ?_ ?_ _) | (with_reducible refine Up.drewN ?_ _) | (with_reducible refine Up.drew ?_)));all_goals (first | (simp;done) | (simp;omega) | omega))),e0,e1,e2,e3,e4,e5,e6⟩⟩
            case rest =>
              (try clear U5)
              (try clear e0 e1 e2 e3 e4 e5 e6)
              obtain ⟨bb,rfl,HGd,HBd,HSx⟩:=hcut
              cases bb with
              | true =>
                obtain rfl:r=false:=HBd.out rfl
                clear HGd HBd
                clear HO HA1 HP HQ HB HT HSr HLV
                go_wp2_with fail
                go_ret
                exact ⟨rfl,HSx.out.1⟩
              | false =>
                clear HBd
                obtain ⟨u5,e0,e1,e2,e3,e4,e5,e6⟩:=HSx.out
                have U5:=Lib.hid u5
                clear u5 HSx
                obtain ⟨g5,g6⟩:=HGd.out rfl
                clear HGd
                go_upto_region 10 with fail
                have K5:=Lib.hid (fun (l:valG g lo) (h:valG g hi)=>part13_any nn s qq lo hi r1 r2 l.1 l.2.1 h.1 h.2.1)
                have HPB:=Lib.hid (fun (l:valG g lo) (k:valG g hi) (h:prtP nn s qq lo hi)=>prt_bd h (by omega) l.1 k.2.1)
                have w1:IntKind.i64.wrap (-nn)=-nn:=by rw [IntKind.wrap_i64];omega
                have w2:IntKind.i64.wrap (-nn * 4096)=-nn * 4096:=by rw [IntKind.wrap_i64];omega
                have w3:IntKind.i64.wrap (nn * 4096)=nn * 4096:=by rw [IntKind.wrap_i64];omega
                have w4:IntKind.i64.wrap (nn * 4096 * 4096)=nn * 4096 * 4096:=by rw [IntKind.wrap_i64];omega
                go_cut [174] from 111 to 174 (fun tb wx=>∃ bb:Bool,tb=.bool bb∧Hid (bb=false→valG g lo∧valG g hi∧lo≤hi∧prtP nn s qq lo hi)∧Hid (bb=true→r=false)∧Hid (Up w wx∧wx.cell? ⟨wr.heap.size,0,none⟩=some (.int .i64 sq)∧wx.cell? ⟨wr.heap.size,1,none⟩=some (.int .i64 t)∧wx.cell? ⟨wr.heap.size,2,none⟩=some (.int .i64 nn)∧wx.cell? ⟨wr.heap.size,3,none⟩=some (.int .i64 s)∧wx.cell? ⟨wr.heap.size,4,none⟩=some (.int .i64 qq)∧wx.cell? ⟨wr.heap.size,5,none⟩=some (.int .i64 lo)∧wx.cell? ⟨wr.heap.size,6,none⟩=some (.int .i64 hi)))
                case first =>
                  as_aux_lemma =>
                    have K5h:=K5
                    clear K5
                    have K5:Hid (∀ w:World,True):=Lib.hid (fun _=>trivial)
                    by_cases k7:¬ (valG g lo)
                    · have hr:Hid (r=false):=Lib.hid (HO.out (fun h=>by have h0:=h.2.2.2.2.2.2.2.2.1;exact absurd h0 k7))
                      rw [decide_eq_false k7] at K3
                      clear k7
                      (try clear HO HA1 HP HQ HB HT HSr HLV)
                      go_wp2_with (first | (go_at_call 83;(with_reducible refine (K3.out _).mono ?_);rintro e w' ⟨rfl,rfl⟩) | (go_at_call 83;(with_reducible refine (K4.out _).mono ?_);rintro e w' ⟨rfl,rfl⟩) | (go_at_call 84;(with_reducible refine (K5.out _).mono ?_);rintro e w' ⟨rfl,rfl⟩))
                      go_meet
                      exact ⟨true,rfl,Lib.hid (fun h=>absurd h (by decide)),Lib.hid (fun _=>hr.out),Lib.hid ⟨(by ((repeat (first | (with_reducible exact Up.refl _) | (with_reducible exact U5.out) | (with_reducible refine Up.alloc ?_ _ _) | (with_reducible refine Up.setCell ?_ ?_ _) | (with_reducible refine Up.drewN ?_ _) | (with_reducible refine Up.drew ?_)));all_goals (first | (simp;done) | (simp;omega) | omega))),e0,e1,e2,e3,e4,e5,e6⟩⟩
                    have k7:=Classical.not_not.1 k7
                    have k_l:=Lib.hid k7
                    rw [decide_eq_true k7] at K3
                    by_cases k8:¬ (valG g hi)
                    · have hr:Hid (r=false):=Lib.hid (HO.out (fun h=>by have h0:=h.2.2.2.2.2.2.2.2.2.1;exact absurd h0 k8))
                      rw [decide_eq_false k8] at K4
                      clear k8
                      (try clear HO HA1 HP HQ HB HT HSr HLV)
                      go_wp2_with (first | (go_at_call 83;(with_reducible refine (K3.out _).mono ?_);rintro e w' ⟨rfl,rfl⟩) | (go_at_call 83;(with_reducible refine (K4.out _).mono ?_);rintro e w' ⟨rfl,rfl⟩) | (go_at_call 84;(with_reducible refine (K5.out _).mono ?_);rintro e w' ⟨rfl,rfl⟩))
                      go_meet
                      exact ⟨true,rfl,Lib.hid (fun h=>absurd h (by decide)),Lib.hid (fun _=>hr.out),Lib.hid ⟨(by ((repeat (first | (with_reducible exact Up.refl _) | (with_reducible exact U5.out) | (with_reducible refine Up.alloc ?_ _ _) | (with_reducible refine Up.setCell ?_ ?_ _) | (with_reducible refine Up.drewN ?_ _) | (with_reducible refine Up.drew ?_)));all_goals (first | (simp;done) | (simp;omega) | omega))),e0,e1,e2,e3,e4,e5,e6⟩⟩
                    have k8:=Classical.not_not.1 k8
                    have k_h:=Lib.hid k8
                    rw [decide_eq_true k8] at K4
                    by_cases k9:¬ (lo≤hi)
                    · have hr:Hid (r=false):=Lib.hid (HO.out (fun h=>by have h0:=h.2.2.2.2.2.2.2.2.2.2.1;exact absurd h0 k9))
                      have uk9:decide (hi<lo)=true:=decide_eq_true (by omega)
                      (try clear HO HA1 HP HQ HB HT HSr HLV)
                      go_wp2_with (first | (go_at_call 83;(with_reducible refine (K3.out _).mono ?_);rintro e w' ⟨rfl,rfl⟩) | (go_at_call 83;(with_reducible refine (K4.out _).mono ?_);rintro e w' ⟨rfl,rfl⟩) | (go_at_call 84;(with_reducible refine (K5.out _).mono ?_);rintro e w' ⟨rfl,rfl⟩))
                      go_meet
                      exact ⟨true,rfl,Lib.hid (fun h=>absurd h (by decide)),Lib.hid (fun _=>hr.out),Lib.hid ⟨(by ((repeat (first | (with_reducible exact Up.refl _) | (with_reducible exact U5.out) | (with_reducible refine Up.alloc ?_ _ _) | (with_reducible refine Up.setCell ?_ ?_ _) | (with_reducible refine Up.drewN ?_ _) | (with_reducible refine Up.drew ?_)));all_goals (first | (simp;done) | (simp;omega) | omega))),e0,e1,e2,e3,e4,e5,e6⟩⟩
                    have k9:=Classical.not_not.1 k9
                    have uk9:decide (hi<lo)=false:=decide_eq_false (by omega)
                    clear k7 k8
                    clear K5
                    have K5:=Lib.hid (K5h.out k_l.out k_h.out)
                    have HPB:=Lib.hid (HPB.out k_l.out k_h.out)
                    by_cases k10:¬ (-nn * 4096≤s)
                    · have hr:Hid (r=false):=Lib.hid (HO.out (fun h=>by have h0:=h.2.2.2.2.2.2.2.2.2.2.2.1;have:=HPB.out h0;omega))
                      have uk10:decide (s < -nn * 4096)=true:=decide_eq_true (by omega)
                      (try clear HO HA1 HP HQ HB HT HSr HLV)
                      go_wp2_with (first | (go_at_call 83;(with_reducible refine (K3.out _).mono ?_);rintro e w' ⟨rfl,rfl⟩) | (go_at_call 83;(with_reducible refine (K4.out _).mono ?_);rintro e w' ⟨rfl,rfl⟩) | (go_at_call 84;(with_reducible refine (K5.out _).mono ?_);rintro e w' ⟨rfl,rfl⟩))
                      go_meet
                      exact ⟨true,rfl,Lib.hid (fun h=>absurd h (by decide)),Lib.hid (fun _=>hr.out),Lib.hid ⟨(by ((repeat (first | (with_reducible exact Up.refl _) | (with_reducible exact U5.out) | (with_reducible refine Up.alloc ?_ _ _) | (with_reducible refine Up.setCell ?_ ?_ _) | (with_reducible refine Up.drewN ?_ _) | (with_reducible refine Up.drew ?_)));all_goals (first | (simp;done) | (simp;omega) | omega))),e0,e1,e2,e3,e4,e5,e6⟩⟩
                    have k10:=Classical.not_not.1 k10
                    have uk10:decide (s < -nn * 4096)=false:=decide_eq_false (by omega)
                    by_cases k11:¬ (s≤nn * 4096)
                    · have hr:Hid (r=false):=Lib.hid (HO.out (fun h=>by have h0:=h.2.2.2.2.2.2.2.2.2.2.2.1;have:=HPB.out h0;omega))
                      have uk11:decide (nn * 4096<s)=true:=decide_eq_true (by omega)
                      (try clear HO HA1 HP HQ HB HT HSr HLV)
                      go_wp2_with (first | (go_at_call 83;(with_reducible refine (K3.out _).mono ?_);rintro e w' ⟨rfl,rfl⟩) | (go_at_call 83;(with_reducible refine (K4.out _).mono ?_);rintro e w' ⟨rfl,rfl⟩) | (go_at_call 84;(with_reducible refine (K5.out _).mono ?_);rintro e w' ⟨rfl,rfl⟩))
                      go_meet
                      exact ⟨true,rfl,Lib.hid (fun h=>absurd h (by decide)),Lib.hid (fun _=>hr.out),Lib.hid ⟨(by ((repeat (first | (with_reducible exact Up.refl _) | (with_reducible exact U5.out) | (with_reducible refine Up.alloc ?_ _ _) | (with_reducible refine Up.setCell ?_ ?_ _) | (with_reducible refine Up.drewN ?_ _) | (with_reducible refine Up.drew ?_)));all_goals (first | (simp;done) | (simp;omega) | omega))),e0,e1,e2,e3,e4,e5,e6⟩⟩
                    have k11:=Classical.not_not.1 k11
                    have uk11:decide (nn * 4096<s)=false:=decide_eq_false (by omega)
                    by_cases k12:¬ (0≤qq)
                    · have hr:Hid (r=false):=Lib.hid (HO.out (fun h=>by have h0:=h.2.2.2.2.2.2.2.2.2.2.2.1;have:=HPB.out h0;omega))
                      have uk12:decide (qq<0)=true:=decide_eq_true (by omega)
                      (try clear HO HA1 HP HQ HB HT HSr HLV)
                      go_wp2_with (first | (go_at_call 83;(with_reducible refine (K3.out _).mono ?_);rintro e w' ⟨rfl,rfl⟩) | (go_at_call 83;(with_reducible refine (K4.out _).mono ?_);rintro e w' ⟨rfl,rfl⟩) | (go_at_call 84;(with_reducible refine (K5.out _).mono ?_);rintro e w' ⟨rfl,rfl⟩))
                      go_meet
                      exact ⟨true,rfl,Lib.hid (fun h=>absurd h (by decide)),Lib.hid (fun _=>hr.out),Lib.hid ⟨(by ((repeat (first | (with_reducible exact Up.refl _) | (with_reducible exact U5.out) | (with_reducible refine Up.alloc ?_ _ _) | (with_reducible refine Up.setCell ?_ ?_ _) | (with_reducible refine Up.drewN ?_ _) | (with_reducible refine Up.drew ?_)));all_goals (first | (simp;done) | (simp;omega) | omega))),e0,e1,e2,e3,e4,e5,e6⟩⟩
                    have k12:=Classical.not_not.1 k12
                    have uk12:decide (qq<0)=false:=decide_eq_false (by omega)
                    by_cases k13:¬ (qq≤nn * 4096 * 4096)
                    · have hr:Hid (r=false):=Lib.hid (HO.out (fun h=>by have h0:=h.2.2.2.2.2.2.2.2.2.2.2.1;have:=HPB.out h0;omega))
                      have uk13:decide (nn * 4096 * 4096<qq)=true:=decide_eq_true (by omega)
                      (try clear HO HA1 HP HQ HB HT HSr HLV)
                      go_wp2_with (first | (go_at_call 83;(with_reducible refine (K3.out _).mono ?_);rintro e w' ⟨rfl,rfl⟩) | (go_at_call 83;(with_reducible refine (K4.out _).mono ?_);rintro e w' ⟨rfl,rfl⟩) | (go_at_call 84;(with_reducible refine (K5.out _).mono ?_);rintro e w' ⟨rfl,rfl⟩))
                      go_meet
                      exact ⟨true,rfl,Lib.hid (fun h=>absurd h (by decide)),Lib.hid (fun _=>hr.out),Lib.hid ⟨(by ((repeat (first | (with_reducible exact Up.refl _) | (with_reducible exact U5.out) | (with_reducible refine Up.alloc ?_ _ _) | (with_reducible refine Up.setCell ?_ ?_ _) | (with_reducible refine Up.drewN ?_ _) | (with_reducible refine Up.drew ?_)));all_goals (first | (simp;done) | (simp;omega) | omega))),e0,e1,e2,e3,e4,e5,e6⟩⟩
                    have k13:=Classical.not_not.1 k13
                    have uk13:decide (nn * 4096 * 4096<qq)=false:=decide_eq_false (by omega)
                    by_cases k14:¬ (prtP nn s qq lo hi)
                    · have hr:Hid (r=false):=Lib.hid (HO.out (fun h=>by have h0:=h.2.2.2.2.2.2.2.2.2.2.2.1;exact absurd h0 k14))
                      rw [decide_eq_false k14] at K5
                      clear k14
                      (try clear HO HA1 HP HQ HB HT HSr HLV)
                      go_wp2_with (first | (go_at_call 83;(with_reducible refine (K3.out _).mono ?_);rintro e w' ⟨rfl,rfl⟩) | (go_at_call 83;(with_reducible refine (K4.out _).mono ?_);rintro e w' ⟨rfl,rfl⟩) | (go_at_call 84;(with_reducible refine (K5.out _).mono ?_);rintro e w' ⟨rfl,rfl⟩))
                      go_meet
                      exact ⟨true,rfl,Lib.hid (fun h=>absurd h (by decide)),Lib.hid (fun _=>hr.out),Lib.hid ⟨(by ((repeat (first | (with_reducible exact Up.refl _) | (with_reducible exact U5.out) | (with_reducible refine Up.alloc ?_ _ _) | (with_reducible refine Up.setCell ?_ ?_ _) | (with_reducible refine Up.drewN ?_ _) | (with_reducible refine Up.drew ?_)));all_goals (first | (simp;done) | (simp;omega) | omega))),e0,e1,e2,e3,e4,e5,e6⟩⟩
                    have k14:=Classical.not_not.1 k14
                    rw [decide_eq_true k14] at K5
                    have k_p:=Lib.hid k14
                    clear k14
                    go_wp2_with (first | (go_at_call 83;(with_reducible refine (K3.out _).mono ?_);rintro e w' ⟨rfl,rfl⟩) | (go_at_call 83;(with_reducible refine (K4.out _).mono ?_);rintro e w' ⟨rfl,rfl⟩) | (go_at_call 84;(with_reducible refine (K5.out _).mono ?_);rintro e w' ⟨rfl,rfl⟩))
                    go_meet
                    exact ⟨false,rfl,Lib.hid (fun _=>⟨k_l.out,k_h.out,k9,k_p.out⟩),Lib.hid (fun h=>absurd h Bool.false_ne_true),Lib.hid ⟨(by ((repeat (first | (with_reducible exact Up.refl _) | (with_reducible exact U5.out) | (with_reducible refine Up.alloc ?_ _ _) | (with_reducible refine Up.setCell ?_ ?_ _) | (with_reducible refine Up.drewN ?_ _) | (with_reducible refine Up.drew ?_)));all_goals (first | (simp;done) | (simp;omega) | omega))),e0,e1,e2,e3,e4,e5,e6⟩⟩
                case rest =>
                  (try clear U5)
                  (try clear e0 e1 e2 e3 e4 e5 e6)
                  obtain ⟨bb,rfl,HGd,HBd,HSx⟩:=hcut
                  cases bb with
                  | true =>
                    obtain rfl:r=false:=HBd.out rfl
                    clear HGd HBd
                    clear HO HA1 HP HQ HB HT HSr HLV
                    go_wp2_with fail
                    go_ret
                    exact ⟨rfl,HSx.out.1⟩
                  | false =>
                    clear HBd
                    obtain ⟨u5,e0,e1,e2,e3,e4,e5,e6⟩:=HSx.out
                    have U5:=Lib.hid u5
                    clear u5 HSx
                    have g9:=Lib.hid (HGd.out rfl)
                    clear HGd w1 w2 w3 w4 K5 K3 K4
                    go_upto_region 12 with fail
                    have HA2:=Lib.hid (HA1.out ⟨g0,g1,G2.out,g3,fun h=>absurd h (Nat.lt_irrefl 0),⟨g5,g6⟩,fun h=>absurd h (Nat.lt_irrefl 0),fun h=>absurd h (by have:=HN1.out;omega),g9.out.1,g9.out.2.1,g9.out.2.2.1,g9.out.2.2.2,fun h=>absurd h (by have:=HN1.out;omega),fun h=>absurd h (Nat.lt_irrefl 0),fun h=>absurd h (Nat.lt_irrefl 0),fun h=>absurd h (Nat.lt_irrefl 0)⟩)
                    clear HO HA1 HP HQ HB HT HSr HLV
                    go_wp2_with fail
                    go_roundw
                    case rel=>exact ⟨0+1,by go_num,by omega,HA2,Lib.hid (by ((repeat (first | (with_reducible exact Up.refl _) | (with_reducible exact U5.out) | (with_reducible refine Up.alloc ?_ _ _) | (with_reducible refine Up.setCell ?_ ?_ _) | (with_reducible refine Up.drewN ?_ _) | (with_reducible refine Up.drew ?_)));all_goals (first | (simp;done) | (simp;omega) | omega)))⟩
                    case measure=>simp [intOf];omega
      · obtain ⟨p,rfl⟩:∃ p,i=p+1:=⟨i - 1,by omega⟩
        have ei:((p+1:Nat):Int)=(p:Int)+1:=by omega
        have HQ1:=Lib.hid (HQ.out p rfl)
        have HP1:=Lib.hid (HP.out p rfl)
        have hpn:p<n:=by omega
        obtain ⟨x0,x1,x2,x3,x4,x5,x6⟩:=mrk_prev HSr.out hpn
        rw [← HQ1.out] at HP1 x0 x1 x2 x3 x4 x5 x6
        obtain ⟨sq0,t0,nn0,s0,qq0,lo0,hi0⟩:=P0
        simp only at x0 x1 x2 x3 x4 x5 x6 HO HA1
        have HBP:=Lib.hid HP1.out.1
        have HNP:=Lib.hid HP1.out.2
        have z1:(0:Int)<(p:Int)+1:=by omega
        have z2:(p:Int)<n:=by omega
        have z3:(0:Int)≤p:=by omega
        have z5:IntKind.i64.wrap (p:Int)=p:=by rw [IntKind.wrap_i64];omega
        have z6:IntKind.i64.wrap ((p:Int)+1)=(p:Int)+1:=by rw [IntKind.wrap_i64];omega
        rw [ei] at f20 f30
        rw [ei]
        clear HP1 HQ1 ei h0i
        go_upto_region 6 with fail
        obtain ⟨W5,hW5⟩:∃ y,y=(wr.alloc (.cells #[.int .i64 sq,.int .i64 t,.int .i64 nn,.int .i64 s,.int .i64 qq,.int .i64 lo,.int .i64 hi] 56)):=⟨_,rfl⟩
        rw [← hW5]
        have U5:Hid (Up w W5):=Lib.hid (by rw [hW5];exact HW.out.alloc _ _)
        have e0:W5.cell? ⟨wr.heap.size,0,none⟩=some (.int .i64 sq):=by rw [hW5];simp [go_sem]
        have e1:W5.cell? ⟨wr.heap.size,1,none⟩=some (.int .i64 t):=by rw [hW5];simp [go_sem]
        have e2:W5.cell? ⟨wr.heap.size,2,none⟩=some (.int .i64 nn):=by rw [hW5];simp [go_sem]
        have e3:W5.cell? ⟨wr.heap.size,3,none⟩=some (.int .i64 s):=by rw [hW5];simp [go_sem]
        have e4:W5.cell? ⟨wr.heap.size,4,none⟩=some (.int .i64 qq):=by rw [hW5];simp [go_sem]
        have e5:W5.cell? ⟨wr.heap.size,5,none⟩=some (.int .i64 lo):=by rw [hW5];simp [go_sem]
        have e6:W5.cell? ⟨wr.heap.size,6,none⟩=some (.int .i64 hi):=by rw [hW5];simp [go_sem]
        have y0:=((Up.refl wr).alloc #[.int .i64 sq,.int .i64 t,.int .i64 nn,.int .i64 s,.int .i64 qq,.int .i64 lo,.int .i64 hi] 56).keep _ _ _ x0
        have y1:=((Up.refl wr).alloc #[.int .i64 sq,.int .i64 t,.int .i64 nn,.int .i64 s,.int .i64 qq,.int .i64 lo,.int .i64 hi] 56).keep _ _ _ x1
        have y2:=((Up.refl wr).alloc #[.int .i64 sq,.int .i64 t,.int .i64 nn,.int .i64 s,.int .i64 qq,.int .i64 lo,.int .i64 hi] 56).keep _ _ _ x2
        have y3:=((Up.refl wr).alloc #[.int .i64 sq,.int .i64 t,.int .i64 nn,.int .i64 s,.int .i64 qq,.int .i64 lo,.int .i64 hi] 56).keep _ _ _ x3
        have y4:=((Up.refl wr).alloc #[.int .i64 sq,.int .i64 t,.int .i64 nn,.int .i64 s,.int .i64 qq,.int .i64 lo,.int .i64 hi] 56).keep _ _ _ x4
        have y5:=((Up.refl wr).alloc #[.int .i64 sq,.int .i64 t,.int .i64 nn,.int .i64 s,.int .i64 qq,.int .i64 lo,.int .i64 hi] 56).keep _ _ _ x5
        have y6:=((Up.refl wr).alloc #[.int .i64 sq,.int .i64 t,.int .i64 nn,.int .i64 s,.int .i64 qq,.int .i64 lo,.int .i64 hi] 56).keep _ _ _ x6
        rw [← hW5] at y0 y1 y2 y3 y4 y5 y6
        clear x0 x1 x2 x3 x4 x5 x6
        clear d0 d1 d2 d3 d4 d5 d6 hW5
        go_cut [68] from 29 to 68 (fun tb wx=>∃ bb:Bool,tb=.bool bb∧Hid (bb=false→1≤sq∧sq≤seq∧nn=seq - sq+1∧nn≤c∧sq0<sq)∧Hid (bb=true→r=false)∧Hid (Up w wx∧wx.cell? ⟨wr.heap.size,0,none⟩=some (.int .i64 sq)∧wx.cell? ⟨wr.heap.size,1,none⟩=some (.int .i64 t)∧wx.cell? ⟨wr.heap.size,2,none⟩=some (.int .i64 nn)∧wx.cell? ⟨wr.heap.size,3,none⟩=some (.int .i64 s)∧wx.cell? ⟨wr.heap.size,4,none⟩=some (.int .i64 qq)∧wx.cell? ⟨wr.heap.size,5,none⟩=some (.int .i64 lo)∧wx.cell? ⟨wr.heap.size,6,none⟩=some (.int .i64 hi)∧wx.cell? ⟨b,o+p * 7,none⟩=some (.int .i64 sq0)∧wx.cell? ⟨b,o+p * 7+1,none⟩=some (.int .i64 t0)∧wx.cell? ⟨b,o+p * 7+2,none⟩=some (.int .i64 nn0)∧wx.cell? ⟨b,o+p * 7+3,none⟩=some (.int .i64 s0)∧wx.cell? ⟨b,o+p * 7+4,none⟩=some (.int .i64 qq0)∧wx.cell? ⟨b,o+p * 7+5,none⟩=some (.int .i64 lo0)∧wx.cell? ⟨b,o+p * 7+6,none⟩=some (.int .i64 hi0)))
        case first =>
          as_aux_lemma =>
            by_cases k0:¬ (1≤sq)
            · have hr:Hid (r=false):=Lib.hid (HO.out (fun h=>by have h0:=h.1;exact absurd h0 k0))
              have uk0:decide (sq<1)=true:=decide_eq_true (by omega)
              (try clear HO HA1 HP HQ HB HT HSr HLV)
              go_quiet (fail)
              go_wp2_with fail
              go_meet
              exact ⟨true,rfl,Lib.hid (fun h=>absurd h (by decide)),Lib.hid (fun _=>hr.out),Lib.hid ⟨(by ((repeat (first | (with_reducible exact Up.refl _) | (with_reducible exact U5.out) | (with_reducible refine Up.alloc ?_ _ _) | (with_reducible refine Up.setCell ?_ ?_ _) | (with_reducible refine Up.drewN ?_ _) | (with_reducible refine Up.drew ?_)));all_goals (first | (simp;done) | (simp;omega) | omega))),e0,e1,e2,e3,e4,e5,e6,y0,y1,y2,y3,y4,y5,y6⟩⟩
            have k0:=Classical.not_not.1 k0
            have uk0:decide (sq<1)=false:=decide_eq_false (by omega)
            by_cases k1:¬ (sq≤seq)
            · have hr:Hid (r=false):=Lib.hid (HO.out (fun h=>by have h0:=h.2.1;exact absurd h0 k1))
              have uk1:decide (seq<sq)=true:=decide_eq_true (by omega)
              (try clear HO HA1 HP HQ HB HT HSr HLV)
              go_quiet (fail)
              go_wp2_with fail
              go_meet
              exact ⟨true,rfl,Lib.hid (fun h=>absurd h (by decide)),Lib.hid (fun _=>hr.out),Lib.hid ⟨(by ((repeat (first | (with_reducible exact Up.refl _) | (with_reducible exact U5.out) | (with_reducible refine Up.alloc ?_ _ _) | (with_reducible refine Up.setCell ?_ ?_ _) | (with_reducible refine Up.drewN ?_ _) | (with_reducible refine Up.drew ?_)));all_goals (first | (simp;done) | (simp;omega) | omega))),e0,e1,e2,e3,e4,e5,e6,y0,y1,y2,y3,y4,y5,y6⟩⟩
            have k1:=Classical.not_not.1 k1
            have uk1:decide (seq<sq)=false:=decide_eq_false (by omega)
            have v1:IntKind.i64.wrap (seq - sq)=seq - sq:=by rw [IntKind.wrap_i64];omega
            have v2:IntKind.i64.wrap (seq - sq+1)=seq - sq+1:=by rw [IntKind.wrap_i64];omega
            by_cases k2:¬ (nn=seq - sq+1)
            · have hr:Hid (r=false):=Lib.hid (HO.out (fun h=>by have h0:=h.2.2.1;exact absurd h0 k2))
              have uk2:(nn != seq - sq+1)=true:=by simp [k2]
              (try clear HO HA1 HP HQ HB HT HSr HLV)
              go_quiet (fail)
              go_wp2_with fail
              go_meet
              exact ⟨true,rfl,Lib.hid (fun h=>absurd h (by decide)),Lib.hid (fun _=>hr.out),Lib.hid ⟨(by ((repeat (first | (with_reducible exact Up.refl _) | (with_reducible exact U5.out) | (with_reducible refine Up.alloc ?_ _ _) | (with_reducible refine Up.setCell ?_ ?_ _) | (with_reducible refine Up.drewN ?_ _) | (with_reducible refine Up.drew ?_)));all_goals (first | (simp;done) | (simp;omega) | omega))),e0,e1,e2,e3,e4,e5,e6,y0,y1,y2,y3,y4,y5,y6⟩⟩
            have k2:=Classical.not_not.1 k2
            subst k2
            by_cases k3:¬ ((seq - sq+1)≤c)
            · have hr:Hid (r=false):=Lib.hid (HO.out (fun h=>by have h0:=h.2.2.2.1;exact absurd h0 k3))
              have uk3:decide (c<seq - sq+1)=true:=decide_eq_true (by omega)
              (try clear HO HA1 HP HQ HB HT HSr HLV)
              go_quiet (fail)
              go_wp2_with fail
              go_meet
              exact ⟨true,rfl,Lib.hid (fun h=>absurd h (by decide)),Lib.hid (fun _=>hr.out),Lib.hid ⟨(by ((repeat (first | (with_reducible exact Up.refl _) | (with_reducible exact U5.out) | (with_reducible refine Up.alloc ?_ _ _) | (with_reducible refine Up.setCell ?_ ?_ _) | (with_reducible refine Up.drewN ?_ _) | (with_reducible refine Up.drew ?_)));all_goals (first | (simp;done) | (simp;omega) | omega))),e0,e1,e2,e3,e4,e5,e6,y0,y1,y2,y3,y4,y5,y6⟩⟩
            have k3:=Classical.not_not.1 k3
            have uk3:decide (c<seq - sq+1)=false:=decide_eq_false (by omega)
            by_cases k4:¬ (sq0<sq)
            · have hr:Hid (r=false):=Lib.hid (HO.out (fun h=>by have h0:=h.2.2.2.2.1;exact absurd (h0 (Nat.succ_pos p)) k4))
              have uk4:decide (sq≤sq0)=true:=decide_eq_true (by omega)
              (try clear HO HA1 HP HQ HB HT HSr HLV)
              go_quiet (fail)
              go_wp2_with fail
              go_meet
              exact ⟨true,rfl,Lib.hid (fun h=>absurd h (by decide)),Lib.hid (fun _=>hr.out),Lib.hid ⟨(by ((repeat (first | (with_reducible exact Up.refl _) | (with_reducible exact U5.out) | (with_reducible refine Up.alloc ?_ _ _) | (with_reducible refine Up.setCell ?_ ?_ _) | (with_reducible refine Up.drewN ?_ _) | (with_reducible refine Up.drew ?_)));all_goals (first | (simp;done) | (simp;omega) | omega))),e0,e1,e2,e3,e4,e5,e6,y0,y1,y2,y3,y4,y5,y6⟩⟩
            have k4:=Classical.not_not.1 k4
            have uk4:decide (sq≤sq0)=false:=decide_eq_false (by omega)
            go_quiet (fail)
            go_wp2_with fail
            go_meet
            exact ⟨false,rfl,Lib.hid (fun _=>⟨k0,k1,(by first | exact trivial | rfl),k3,k4⟩),Lib.hid (fun h=>absurd h Bool.false_ne_true),Lib.hid ⟨(by ((repeat (first | (with_reducible exact Up.refl _) | (with_reducible exact U5.out) | (with_reducible refine Up.alloc ?_ _ _) | (with_reducible refine Up.setCell ?_ ?_ _) | (with_reducible refine Up.drewN ?_ _) | (with_reducible refine Up.drew ?_)));all_goals (first | (simp;done) | (simp;omega) | omega))),e0,e1,e2,e3,e4,e5,e6,y0,y1,y2,y3,y4,y5,y6⟩⟩
        case rest =>
          (try clear U5)
          (try clear e0 e1 e2 e3 e4 e5 e6 y0 y1 y2 y3 y4 y5 y6)
          obtain ⟨bb,rfl,HGd,HBd,HSx⟩:=hcut
          cases bb with
          | true =>
            obtain rfl:r=false:=HBd.out rfl
            clear HGd HBd
            clear HO HA1 HP HQ HB HT HSr HLV
            go_wp2_with fail
            go_ret
            exact ⟨rfl,HSx.out.1⟩
          | false =>
            clear HBd
            obtain ⟨u5,e0,e1,e2,e3,e4,e5,e6,y0,y1,y2,y3,y4,y5,y6⟩:=HSx.out
            have U5:=Lib.hid u5
            clear u5 HSx
            obtain ⟨g0,g1,g2,g3,g4_⟩:=HGd.out rfl
            have r1:1≤nn:=by omega
            have r2:nn≤65536:=by omega
            have G2:=Lib.hid g2
            clear HGd g2
            go_upto_region 8 with fail
            go_cut [110] from 69 to 110 (fun tb wx=>∃ bb:Bool,tb=.bool bb∧Hid (bb=false→0≤t∧t≤now∧t0≤t∧now - v<t)∧Hid (bb=true→r=false)∧Hid (Up w wx∧wx.cell? ⟨wr.heap.size,0,none⟩=some (.int .i64 sq)∧wx.cell? ⟨wr.heap.size,1,none⟩=some (.int .i64 t)∧wx.cell? ⟨wr.heap.size,2,none⟩=some (.int .i64 nn)∧wx.cell? ⟨wr.heap.size,3,none⟩=some (.int .i64 s)∧wx.cell? ⟨wr.heap.size,4,none⟩=some (.int .i64 qq)∧wx.cell? ⟨wr.heap.size,5,none⟩=some (.int .i64 lo)∧wx.cell? ⟨wr.heap.size,6,none⟩=some (.int .i64 hi)∧wx.cell? ⟨b,o+p * 7,none⟩=some (.int .i64 sq0)∧wx.cell? ⟨b,o+p * 7+1,none⟩=some (.int .i64 t0)∧wx.cell? ⟨b,o+p * 7+2,none⟩=some (.int .i64 nn0)∧wx.cell? ⟨b,o+p * 7+3,none⟩=some (.int .i64 s0)∧wx.cell? ⟨b,o+p * 7+4,none⟩=some (.int .i64 qq0)∧wx.cell? ⟨b,o+p * 7+5,none⟩=some (.int .i64 lo0)∧wx.cell? ⟨b,o+p * 7+6,none⟩=some (.int .i64 hi0)))
            case first =>
              as_aux_lemma =>
                by_cases k5:¬ (0≤t)
                · have hr:Hid (r=false):=Lib.hid (HO.out (fun h=>by have h0:=h.2.2.2.2.2.1;exact absurd h0.1 k5))
                  rw [show tickB t=false from decide_eq_false (by omega)] at K1
                  (try clear HO HA1 HP HQ HB HT HSr HLV)
                  go_quiet (first | (go_at_call 76;refine Calls.quiet_of_same (K1.out _)) | (go_at_call 40;refine Calls.quiet_of_same (K2.out _)))
                  go_wp2_with fail
                  go_meet
                  exact ⟨true,rfl,Lib.hid (fun h=>absurd h (by decide)),Lib.hid (fun _=>hr.out),Lib.hid ⟨(by ((repeat (first | (with_reducible exact Up.refl _) | (with_reducible exact U5.out) | (with_reducible refine Up.alloc ?_ _ _) | (with_reducible refine Up.setCell ?_ ?_ _) | (with_reducible refine Up.drewN ?_ _) | (with_reducible refine Up.drew ?_)));all_goals (first | (simp;done) | (simp;omega) | omega))),e0,e1,e2,e3,e4,e5,e6,y0,y1,y2,y3,y4,y5,y6⟩⟩
                have k5:=Classical.not_not.1 k5
                by_cases k6:¬ (t≤16777216)
                · have hr:Hid (r=false):=Lib.hid (HO.out (fun h=>by have h0:=h.2.2.2.2.2.1;have:=h0.2;omega))
                  rw [show tickB t=false from decide_eq_false (by omega)] at K1
                  (try clear HO HA1 HP HQ HB HT HSr HLV)
                  go_quiet (first | (go_at_call 76;refine Calls.quiet_of_same (K1.out _)) | (go_at_call 40;refine Calls.quiet_of_same (K2.out _)))
                  go_wp2_with fail
                  go_meet
                  exact ⟨true,rfl,Lib.hid (fun h=>absurd h (by decide)),Lib.hid (fun _=>hr.out),Lib.hid ⟨(by ((repeat (first | (with_reducible exact Up.refl _) | (with_reducible exact U5.out) | (with_reducible refine Up.alloc ?_ _ _) | (with_reducible refine Up.setCell ?_ ?_ _) | (with_reducible refine Up.drewN ?_ _) | (with_reducible refine Up.drew ?_)));all_goals (first | (simp;done) | (simp;omega) | omega))),e0,e1,e2,e3,e4,e5,e6,y0,y1,y2,y3,y4,y5,y6⟩⟩
                have k6:=Classical.not_not.1 k6
                rw [show tickB t=true from decide_eq_true (by omega)] at K1
                by_cases k7:¬ (t≤now)
                · have hr:Hid (r=false):=Lib.hid (HO.out (fun h=>by have h0:=h.2.2.2.2.2.1;exact absurd h0.2 k7))
                  have uk7:decide (now<t)=true:=decide_eq_true (by omega)
                  (try clear HO HA1 HP HQ HB HT HSr HLV)
                  go_quiet (first | (go_at_call 76;refine Calls.quiet_of_same (K1.out _)) | (go_at_call 40;refine Calls.quiet_of_same (K2.out _)))
                  go_wp2_with fail
                  go_meet
                  exact ⟨true,rfl,Lib.hid (fun h=>absurd h (by decide)),Lib.hid (fun _=>hr.out),Lib.hid ⟨(by ((repeat (first | (with_reducible exact Up.refl _) | (with_reducible exact U5.out) | (with_reducible refine Up.alloc ?_ _ _) | (with_reducible refine Up.setCell ?_ ?_ _) | (with_reducible refine Up.drewN ?_ _) | (with_reducible refine Up.drew ?_)));all_goals (first | (simp;done) | (simp;omega) | omega))),e0,e1,e2,e3,e4,e5,e6,y0,y1,y2,y3,y4,y5,y6⟩⟩
                have k7:=Classical.not_not.1 k7
                have uk7:decide (now<t)=false:=decide_eq_false (by omega)
                by_cases k8:¬ (t0≤t)
                · have hr:Hid (r=false):=Lib.hid (HO.out (fun h=>by have h0:=h.2.2.2.2.2.2.1;exact absurd (h0 (Nat.succ_pos p)) k8))
                  have uk8:decide (t<t0)=true:=decide_eq_true (by omega)
                  (try clear HO HA1 HP HQ HB HT HSr HLV)
                  go_quiet (first | (go_at_call 76;refine Calls.quiet_of_same (K1.out _)) | (go_at_call 40;refine Calls.quiet_of_same (K2.out _)))
                  go_wp2_with fail
                  go_meet
                  exact ⟨true,rfl,Lib.hid (fun h=>absurd h (by decide)),Lib.hid (fun _=>hr.out),Lib.hid ⟨(by ((repeat (first | (with_reducible exact Up.refl _) | (with_reducible exact U5.out) | (with_reducible refine Up.alloc ?_ _ _) | (with_reducible refine Up.setCell ?_ ?_ _) | (with_reducible refine Up.drewN ?_ _) | (with_reducible refine Up.drew ?_)));all_goals (first | (simp;done) | (simp;omega) | omega))),e0,e1,e2,e3,e4,e5,e6,y0,y1,y2,y3,y4,y5,y6⟩⟩
                have k8:=Classical.not_not.1 k8
                have uk8:decide (t<t0)=false:=decide_eq_false (by omega)
                by_cases k9:¬ (liveB now v t=true)
                · have hr:Hid (r=false):=Lib.hid (HO.out (fun h=>by have h0:=h.2.2.2.2.2.2.2.1;exact absurd ((HLV.out k5 k7).2 (h0 (by omega))) k9))
                  rw [Bool.not_eq_true] at k9
                  rw [k9] at K2
                  (try clear HO HA1 HP HQ HB HT HSr HLV)
                  go_quiet (first | (go_at_call 76;refine Calls.quiet_of_same (K1.out _)) | (go_at_call 40;refine Calls.quiet_of_same (K2.out _)))
                  go_wp2_with fail
                  go_meet
                  exact ⟨true,rfl,Lib.hid (fun h=>absurd h (by decide)),Lib.hid (fun _=>hr.out),Lib.hid ⟨(by ((repeat (first | (with_reducible exact Up.refl _) | (with_reducible exact U5.out) | (with_reducible refine Up.alloc ?_ _ _) | (with_reducible refine Up.setCell ?_ ?_ _) | (with_reducible refine Up.drewN ?_ _) | (with_reducible refine Up.drew ?_)));all_goals (first | (simp;done) | (simp;omega) | omega))),e0,e1,e2,e3,e4,e5,e6,y0,y1,y2,y3,y4,y5,y6⟩⟩
                have k9:=Classical.not_not.1 k9
                rw [k9] at K2
                have hlv:=(HLV.out k5 k7).1 k9
                clear k9
                go_quiet (first | (go_at_call 76;refine Calls.quiet_of_same (K1.out _)) | (go_at_call 40;refine Calls.quiet_of_same (K2.out _)))
                go_wp2_with fail
                go_meet
                exact ⟨false,rfl,Lib.hid (fun _=>⟨k5,k7,k8,hlv⟩),Lib.hid (fun h=>absurd h Bool.false_ne_true),Lib.hid ⟨(by ((repeat (first | (with_reducible exact Up.refl _) | (with_reducible exact U5.out) | (with_reducible refine Up.alloc ?_ _ _) | (with_reducible refine Up.setCell ?_ ?_ _) | (with_reducible refine Up.drewN ?_ _) | (with_reducible refine Up.drew ?_)));all_goals (first | (simp;done) | (simp;omega) | omega))),e0,e1,e2,e3,e4,e5,e6,y0,y1,y2,y3,y4,y5,y6⟩⟩
            case rest =>
              (try clear U5)
              (try clear e0 e1 e2 e3 e4 e5 e6 y0 y1 y2 y3 y4 y5 y6)
              obtain ⟨bb,rfl,HGd,HBd,HSx⟩:=hcut
              cases bb with
              | true =>
                obtain rfl:r=false:=HBd.out rfl
                clear HGd HBd
                clear HO HA1 HP HQ HB HT HSr HLV
                go_wp2_with fail
                go_ret
                exact ⟨rfl,HSx.out.1⟩
              | false =>
                clear HBd
                obtain ⟨u5,e0,e1,e2,e3,e4,e5,e6,y0,y1,y2,y3,y4,y5,y6⟩:=HSx.out
                have U5:=Lib.hid u5
                clear u5 HSx
                obtain ⟨g5,g6,g7,g8⟩:=HGd.out rfl
                clear HGd
                go_upto_region 10 with fail
                have K5:=Lib.hid (fun (l:valG g lo) (h:valG g hi)=>part13_any nn s qq lo hi r1 r2 l.1 l.2.1 h.1 h.2.1)
                have HPB:=Lib.hid (fun (l:valG g lo) (k:valG g hi) (h:prtP nn s qq lo hi)=>prt_bd h (by omega) l.1 k.2.1)
                have w1:IntKind.i64.wrap (-nn)=-nn:=by rw [IntKind.wrap_i64];omega
                have w2:IntKind.i64.wrap (-nn * 4096)=-nn * 4096:=by rw [IntKind.wrap_i64];omega
                have w3:IntKind.i64.wrap (nn * 4096)=nn * 4096:=by rw [IntKind.wrap_i64];omega
                have w4:IntKind.i64.wrap (nn * 4096 * 4096)=nn * 4096 * 4096:=by rw [IntKind.wrap_i64];omega
                go_cut [174] from 111 to 174 (fun tb wx=>∃ bb:Bool,tb=.bool bb∧Hid (bb=false→valG g lo∧valG g hi∧lo≤hi∧prtP nn s qq lo hi)∧Hid (bb=true→r=false)∧Hid (Up w wx∧wx.cell? ⟨wr.heap.size,0,none⟩=some (.int .i64 sq)∧wx.cell? ⟨wr.heap.size,1,none⟩=some (.int .i64 t)∧wx.cell? ⟨wr.heap.size,2,none⟩=some (.int .i64 nn)∧wx.cell? ⟨wr.heap.size,3,none⟩=some (.int .i64 s)∧wx.cell? ⟨wr.heap.size,4,none⟩=some (.int .i64 qq)∧wx.cell? ⟨wr.heap.size,5,none⟩=some (.int .i64 lo)∧wx.cell? ⟨wr.heap.size,6,none⟩=some (.int .i64 hi)∧wx.cell? ⟨b,o+p * 7,none⟩=some (.int .i64 sq0)∧wx.cell? ⟨b,o+p * 7+1,none⟩=some (.int .i64 t0)∧wx.cell? ⟨b,o+p * 7+2,none⟩=some (.int .i64 nn0)∧wx.cell? ⟨b,o+p * 7+3,none⟩=some (.int .i64 s0)∧wx.cell? ⟨b,o+p * 7+4,none⟩=some (.int .i64 qq0)∧wx.cell? ⟨b,o+p * 7+5,none⟩=some (.int .i64 lo0)∧wx.cell? ⟨b,o+p * 7+6,none⟩=some (.int .i64 hi0)))
                case first =>
                  as_aux_lemma =>
                    have K5h:=K5
                    clear K5
                    have K5:Hid (∀ w:World,True):=Lib.hid (fun _=>trivial)
                    by_cases k10:¬ (valG g lo)
                    · have hr:Hid (r=false):=Lib.hid (HO.out (fun h=>by have h0:=h.2.2.2.2.2.2.2.2.1;exact absurd h0 k10))
                      rw [decide_eq_false k10] at K3
                      clear k10
                      (try clear HO HA1 HP HQ HB HT HSr HLV)
                      go_wp2_with (first | (go_at_call 83;(with_reducible refine (K3.out _).mono ?_);rintro e w' ⟨rfl,rfl⟩) | (go_at_call 83;(with_reducible refine (K4.out _).mono ?_);rintro e w' ⟨rfl,rfl⟩) | (go_at_call 84;(with_reducible refine (K5.out _).mono ?_);rintro e w' ⟨rfl,rfl⟩))
                      go_meet
                      exact ⟨true,rfl,Lib.hid (fun h=>absurd h (by decide)),Lib.hid (fun _=>hr.out),Lib.hid ⟨(by ((repeat (first | (with_reducible exact Up.refl _) | (with_reducible exact U5.out) | (with_reducible refine Up.alloc ?_ _ _) | (with_reducible refine Up.setCell ?_ ?_ _) | (with_reducible refine Up.drewN ?_ _) | (with_reducible refine Up.drew ?_)));all_goals (first | (simp;done) | (simp;omega) | omega))),e0,e1,e2,e3,e4,e5,e6,y0,y1,y2,y3,y4,y5,y6⟩⟩
                    have k10:=Classical.not_not.1 k10
                    have k_l:=Lib.hid k10
                    rw [decide_eq_true k10] at K3
                    by_cases k11:¬ (valG g hi)
                    · have hr:Hid (r=false):=Lib.hid (HO.out (fun h=>by have h0:=h.2.2.2.2.2.2.2.2.2.1;exact absurd h0 k11))
                      rw [decide_eq_false k11] at K4
                      clear k11
                      (try clear HO HA1 HP HQ HB HT HSr HLV)
                      go_wp2_with (first | (go_at_call 83;(with_reducible refine (K3.out _).mono ?_);rintro e w' ⟨rfl,rfl⟩) | (go_at_call 83;(with_reducible refine (K4.out _).mono ?_);rintro e w' ⟨rfl,rfl⟩) | (go_at_call 84;(with_reducible refine (K5.out _).mono ?_);rintro e w' ⟨rfl,rfl⟩))
                      go_meet
                      exact ⟨true,rfl,Lib.hid (fun h=>absurd h (by decide)),Lib.hid (fun _=>hr.out),Lib.hid ⟨(by ((repeat (first | (with_reducible exact Up.refl _) | (with_reducible exact U5.out) | (with_reducible refine Up.alloc ?_ _ _) | (with_reducible refine Up.setCell ?_ ?_ _) | (with_reducible refine Up.drewN ?_ _) | (with_reducible refine Up.drew ?_)));all_goals (first | (simp;done) | (simp;omega) | omega))),e0,e1,e2,e3,e4,e5,e6,y0,y1,y2,y3,y4,y5,y6⟩⟩
                    have k11:=Classical.not_not.1 k11
                    have k_h:=Lib.hid k11
                    rw [decide_eq_true k11] at K4
                    by_cases k12:¬ (lo≤hi)
                    · have hr:Hid (r=false):=Lib.hid (HO.out (fun h=>by have h0:=h.2.2.2.2.2.2.2.2.2.2.1;exact absurd h0 k12))
                      have uk12:decide (hi<lo)=true:=decide_eq_true (by omega)
                      (try clear HO HA1 HP HQ HB HT HSr HLV)
                      go_wp2_with (first | (go_at_call 83;(with_reducible refine (K3.out _).mono ?_);rintro e w' ⟨rfl,rfl⟩) | (go_at_call 83;(with_reducible refine (K4.out _).mono ?_);rintro e w' ⟨rfl,rfl⟩) | (go_at_call 84;(with_reducible refine (K5.out _).mono ?_);rintro e w' ⟨rfl,rfl⟩))
                      go_meet
                      exact ⟨true,rfl,Lib.hid (fun h=>absurd h (by decide)),Lib.hid (fun _=>hr.out),Lib.hid ⟨(by ((repeat (first | (with_reducible exact Up.refl _) | (with_reducible exact U5.out) | (with_reducible refine Up.alloc ?_ _ _) | (with_reducible refine Up.setCell ?_ ?_ _) | (with_reducible refine Up.drewN ?_ _) | (with_reducible refine Up.drew ?_)));all_goals (first | (simp;done) | (simp;omega) | omega))),e0,e1,e2,e3,e4,e5,e6,y0,y1,y2,y3,y4,y5,y6⟩⟩
                    have k12:=Classical.not_not.1 k12
                    have uk12:decide (hi<lo)=false:=decide_eq_false (by omega)
                    clear k10 k11
                    clear K5
                    have K5:=Lib.hid (K5h.out k_l.out k_h.out)
                    have HPB:=Lib.hid (HPB.out k_l.out k_h.out)
                    by_cases k13:¬ (-nn * 4096≤s)
                    · have hr:Hid (r=false):=Lib.hid (HO.out (fun h=>by have h0:=h.2.2.2.2.2.2.2.2.2.2.2.1;have:=HPB.out h0;omega))
                      have uk13:decide (s < -nn * 4096)=true:=decide_eq_true (by omega)
                      (try clear HO HA1 HP HQ HB HT HSr HLV)
                      go_wp2_with (first | (go_at_call 83;(with_reducible refine (K3.out _).mono ?_);rintro e w' ⟨rfl,rfl⟩) | (go_at_call 83;(with_reducible refine (K4.out _).mono ?_);rintro e w' ⟨rfl,rfl⟩) | (go_at_call 84;(with_reducible refine (K5.out _).mono ?_);rintro e w' ⟨rfl,rfl⟩))
                      go_meet
                      exact ⟨true,rfl,Lib.hid (fun h=>absurd h (by decide)),Lib.hid (fun _=>hr.out),Lib.hid ⟨(by ((repeat (first | (with_reducible exact Up.refl _) | (with_reducible exact U5.out) | (with_reducible refine Up.alloc ?_ _ _) | (with_reducible refine Up.setCell ?_ ?_ _) | (with_reducible refine Up.drewN ?_ _) | (with_reducible refine Up.drew ?_)));all_goals (first | (simp;done) | (simp;omega) | omega))),e0,e1,e2,e3,e4,e5,e6,y0,y1,y2,y3,y4,y5,y6⟩⟩
                    have k13:=Classical.not_not.1 k13
                    have uk13:decide (s < -nn * 4096)=false:=decide_eq_false (by omega)
                    by_cases k14:¬ (s≤nn * 4096)
                    · have hr:Hid (r=false):=Lib.hid (HO.out (fun h=>by have h0:=h.2.2.2.2.2.2.2.2.2.2.2.1;have:=HPB.out h0;omega))
                      have uk14:decide (nn * 4096<s)=true:=decide_eq_true (by omega)
                      (try clear HO HA1 HP HQ HB HT HSr HLV)
                      go_wp2_with (first | (go_at_call 83;(with_reducible refine (K3.out _).mono ?_);rintro e w' ⟨rfl,rfl⟩) | (go_at_call 83;(with_reducible refine (K4.out _).mono ?_);rintro e w' ⟨rfl,rfl⟩) | (go_at_call 84;(with_reducible refine (K5.out _).mono ?_);rintro e w' ⟨rfl,rfl⟩))
                      go_meet
                      exact ⟨true,rfl,Lib.hid (fun h=>absurd h (by decide)),Lib.hid (fun _=>hr.out),Lib.hid ⟨(by ((repeat (first | (with_reducible exact Up.refl _) | (with_reducible exact U5.out) | (with_reducible refine Up.alloc ?_ _ _) | (with_reducible refine Up.setCell ?_ ?_ _) | (with_reducible refine Up.drewN ?_ _) | (with_reducible refine Up.drew ?_)));all_goals (first | (simp;done) | (simp;omega) | omega))),e0,e1,e2,e3,e4,e5,e6,y0,y1,y2,y3,y4,y5,y6⟩⟩
                    have k14:=Classical.not_not.1 k14
                    have uk14:decide (nn * 4096<s)=false:=decide_eq_false (by omega)
                    by_cases k15:¬ (0≤qq)
                    · have hr:Hid (r=false):=Lib.hid (HO.out (fun h=>by have h0:=h.2.2.2.2.2.2.2.2.2.2.2.1;have:=HPB.out h0;omega))
                      have uk15:decide (qq<0)=true:=decide_eq_true (by omega)
                      (try clear HO HA1 HP HQ HB HT HSr HLV)
                      go_wp2_with (first | (go_at_call 83;(with_reducible refine (K3.out _).mono ?_);rintro e w' ⟨rfl,rfl⟩) | (go_at_call 83;(with_reducible refine (K4.out _).mono ?_);rintro e w' ⟨rfl,rfl⟩) | (go_at_call 84;(with_reducible refine (K5.out _).mono ?_);rintro e w' ⟨rfl,rfl⟩))
                      go_meet
                      exact ⟨true,rfl,Lib.hid (fun h=>absurd h (by decide)),Lib.hid (fun _=>hr.out),Lib.hid ⟨(by ((repeat (first | (with_reducible exact Up.refl _) | (with_reducible exact U5.out) | (with_reducible refine Up.alloc ?_ _ _) | (with_reducible refine Up.setCell ?_ ?_ _) | (with_reducible refine Up.drewN ?_ _) | (with_reducible refine Up.drew ?_)));all_goals (first | (simp;done) | (simp;omega) | omega))),e0,e1,e2,e3,e4,e5,e6,y0,y1,y2,y3,y4,y5,y6⟩⟩
                    have k15:=Classical.not_not.1 k15
                    have uk15:decide (qq<0)=false:=decide_eq_false (by omega)
                    by_cases k16:¬ (qq≤nn * 4096 * 4096)
                    · have hr:Hid (r=false):=Lib.hid (HO.out (fun h=>by have h0:=h.2.2.2.2.2.2.2.2.2.2.2.1;have:=HPB.out h0;omega))
                      have uk16:decide (nn * 4096 * 4096<qq)=true:=decide_eq_true (by omega)
                      (try clear HO HA1 HP HQ HB HT HSr HLV)
                      go_wp2_with (first | (go_at_call 83;(with_reducible refine (K3.out _).mono ?_);rintro e w' ⟨rfl,rfl⟩) | (go_at_call 83;(with_reducible refine (K4.out _).mono ?_);rintro e w' ⟨rfl,rfl⟩) | (go_at_call 84;(with_reducible refine (K5.out _).mono ?_);rintro e w' ⟨rfl,rfl⟩))
                      go_meet
                      exact ⟨true,rfl,Lib.hid (fun h=>absurd h (by decide)),Lib.hid (fun _=>hr.out),Lib.hid ⟨(by ((repeat (first | (with_reducible exact Up.refl _) | (with_reducible exact U5.out) | (with_reducible refine Up.alloc ?_ _ _) | (with_reducible refine Up.setCell ?_ ?_ _) | (with_reducible refine Up.drewN ?_ _) | (with_reducible refine Up.drew ?_)));all_goals (first | (simp;done) | (simp;omega) | omega))),e0,e1,e2,e3,e4,e5,e6,y0,y1,y2,y3,y4,y5,y6⟩⟩
                    have k16:=Classical.not_not.1 k16
                    have uk16:decide (nn * 4096 * 4096<qq)=false:=decide_eq_false (by omega)
                    by_cases k17:¬ (prtP nn s qq lo hi)
                    · have hr:Hid (r=false):=Lib.hid (HO.out (fun h=>by have h0:=h.2.2.2.2.2.2.2.2.2.2.2.1;exact absurd h0 k17))
                      rw [decide_eq_false k17] at K5
                      clear k17
                      (try clear HO HA1 HP HQ HB HT HSr HLV)
                      go_wp2_with (first | (go_at_call 83;(with_reducible refine (K3.out _).mono ?_);rintro e w' ⟨rfl,rfl⟩) | (go_at_call 83;(with_reducible refine (K4.out _).mono ?_);rintro e w' ⟨rfl,rfl⟩) | (go_at_call 84;(with_reducible refine (K5.out _).mono ?_);rintro e w' ⟨rfl,rfl⟩))
                      go_meet
                      exact ⟨true,rfl,Lib.hid (fun h=>absurd h (by decide)),Lib.hid (fun _=>hr.out),Lib.hid ⟨(by ((repeat (first | (with_reducible exact Up.refl _) | (with_reducible exact U5.out) | (with_reducible refine Up.alloc ?_ _ _) | (with_reducible refine Up.setCell ?_ ?_ _) | (with_reducible refine Up.drewN ?_ _) | (with_reducible refine Up.drew ?_)));all_goals (first | (simp;done) | (simp;omega) | omega))),e0,e1,e2,e3,e4,e5,e6,y0,y1,y2,y3,y4,y5,y6⟩⟩
                    have k17:=Classical.not_not.1 k17
                    rw [decide_eq_true k17] at K5
                    have k_p:=Lib.hid k17
                    clear k17
                    go_wp2_with (first | (go_at_call 83;(with_reducible refine (K3.out _).mono ?_);rintro e w' ⟨rfl,rfl⟩) | (go_at_call 83;(with_reducible refine (K4.out _).mono ?_);rintro e w' ⟨rfl,rfl⟩) | (go_at_call 84;(with_reducible refine (K5.out _).mono ?_);rintro e w' ⟨rfl,rfl⟩))
                    go_meet
                    exact ⟨false,rfl,Lib.hid (fun _=>⟨k_l.out,k_h.out,k12,k_p.out⟩),Lib.hid (fun h=>absurd h Bool.false_ne_true),Lib.hid ⟨(by ((repeat (first | (with_reducible exact Up.refl _) | (with_reducible exact U5.out) | (with_reducible refine Up.alloc ?_ _ _) | (with_reducible refine Up.setCell ?_ ?_ _) | (with_reducible refine Up.drewN ?_ _) | (with_reducible refine Up.drew ?_)));all_goals (first | (simp;done) | (simp;omega) | omega))),e0,e1,e2,e3,e4,e5,e6,y0,y1,y2,y3,y4,y5,y6⟩⟩
                case rest =>
                  (try clear U5)
                  (try clear e0 e1 e2 e3 e4 e5 e6 y0 y1 y2 y3 y4 y5 y6)
                  obtain ⟨bb,rfl,HGd,HBd,HSx⟩:=hcut
                  cases bb with
                  | true =>
                    obtain rfl:r=false:=HBd.out rfl
                    clear HGd HBd
                    clear HO HA1 HP HQ HB HT HSr HLV
                    go_wp2_with fail
                    go_ret
                    exact ⟨rfl,HSx.out.1⟩
                  | false =>
                    clear HBd
                    obtain ⟨u5,e0,e1,e2,e3,e4,e5,e6,y0,y1,y2,y3,y4,y5,y6⟩:=HSx.out
                    have U5:=Lib.hid u5
                    clear u5 HSx
                    have g9:=Lib.hid (HGd.out rfl)
                    clear HGd w1 w2 w3 w4 K5 K3 K4
                    go_upto_region 12 with fail
                    go_cut [209] from 175 to 209 (fun tb wx=>∃ bb:Bool,tb=.bool bb∧Hid (bb=false→(p+1+1=n→sq=seq∧lo=s∧hi=s∧qq=s * s))∧Hid (bb=true→r=false)∧Hid (Up w wx∧wx.cell? ⟨wr.heap.size,0,none⟩=some (.int .i64 sq)∧wx.cell? ⟨wr.heap.size,1,none⟩=some (.int .i64 t)∧wx.cell? ⟨wr.heap.size,2,none⟩=some (.int .i64 nn)∧wx.cell? ⟨wr.heap.size,3,none⟩=some (.int .i64 s)∧wx.cell? ⟨wr.heap.size,4,none⟩=some (.int .i64 qq)∧wx.cell? ⟨wr.heap.size,5,none⟩=some (.int .i64 lo)∧wx.cell? ⟨wr.heap.size,6,none⟩=some (.int .i64 hi)∧wx.cell? ⟨b,o+p * 7,none⟩=some (.int .i64 sq0)∧wx.cell? ⟨b,o+p * 7+1,none⟩=some (.int .i64 t0)∧wx.cell? ⟨b,o+p * 7+2,none⟩=some (.int .i64 nn0)∧wx.cell? ⟨b,o+p * 7+3,none⟩=some (.int .i64 s0)∧wx.cell? ⟨b,o+p * 7+4,none⟩=some (.int .i64 qq0)∧wx.cell? ⟨b,o+p * 7+5,none⟩=some (.int .i64 lo0)∧wx.cell? ⟨b,o+p * 7+6,none⟩=some (.int .i64 hi0)))
                    case first =>
                      as_aux_lemma =>
                        by_cases hl:p+1+1=n
                        · have tl:(n:Int) - 1=(p:Int)+1:=by omega
                          obtain ⟨q1_,q2_⟩:-268435456≤s∧s≤268435456:=by have:=HPB.out g9.out.1 g9.out.2.1 g9.out.2.2.2;omega
                          have y1_:=sq_bd (x:=s) (m:=268435456) (by omega) (by omega)
                          have y2_:=sq_nn s
                          have w5:IntKind.i64.wrap (s * s)=s * s:=by rw [IntKind.wrap_i64];omega
                          by_cases k18:¬ (sq=seq)
                          · have hr:Hid (r=false):=Lib.hid (HO.out (fun h=>by have h0:=h.2.2.2.2.2.2.2.2.2.2.2.2.1;exact absurd (h0 (by omega)).1 k18))
                            have uk18:(sq != seq)=true:=by simp [k18]
                            (try clear HO HA1 HP HQ HB HT HSr HLV)
                            go_wp2_with fail
                            go_meet
                            exact ⟨true,rfl,Lib.hid (fun h=>absurd h (by decide)),Lib.hid (fun _=>hr.out),Lib.hid ⟨(by ((repeat (first | (with_reducible exact Up.refl _) | (with_reducible exact U5.out) | (with_reducible refine Up.alloc ?_ _ _) | (with_reducible refine Up.setCell ?_ ?_ _) | (with_reducible refine Up.drewN ?_ _) | (with_reducible refine Up.drew ?_)));all_goals (first | (simp;done) | (simp;omega) | omega))),e0,e1,e2,e3,e4,e5,e6,y0,y1,y2,y3,y4,y5,y6⟩⟩
                          have k18:=Classical.not_not.1 k18
                          have k18:=k18.symm
                          subst k18
                          by_cases k19:¬ (lo=s)
                          · have hr:Hid (r=false):=Lib.hid (HO.out (fun h=>by have h0:=h.2.2.2.2.2.2.2.2.2.2.2.2.1;exact absurd (h0 (by omega)).2.1 k19))
                            have uk19:(lo != s)=true:=by simp [k19]
                            (try clear HO HA1 HP HQ HB HT HSr HLV)
                            go_wp2_with fail
                            go_meet
                            exact ⟨true,rfl,Lib.hid (fun h=>absurd h (by decide)),Lib.hid (fun _=>hr.out),Lib.hid ⟨(by ((repeat (first | (with_reducible exact Up.refl _) | (with_reducible exact U5.out) | (with_reducible refine Up.alloc ?_ _ _) | (with_reducible refine Up.setCell ?_ ?_ _) | (with_reducible refine Up.drewN ?_ _) | (with_reducible refine Up.drew ?_)));all_goals (first | (simp;done) | (simp;omega) | omega))),e0,e1,e2,e3,e4,e5,e6,y0,y1,y2,y3,y4,y5,y6⟩⟩
                          have k19:=Classical.not_not.1 k19
                          have k19:=k19.symm
                          subst k19
                          by_cases k20:¬ (hi=s)
                          · have hr:Hid (r=false):=Lib.hid (HO.out (fun h=>by have h0:=h.2.2.2.2.2.2.2.2.2.2.2.2.1;exact absurd (h0 (by omega)).2.2.1 k20))
                            have uk20:(hi != s)=true:=by simp [k20]
                            (try clear HO HA1 HP HQ HB HT HSr HLV)
                            go_wp2_with fail
                            go_meet
                            exact ⟨true,rfl,Lib.hid (fun h=>absurd h (by decide)),Lib.hid (fun _=>hr.out),Lib.hid ⟨(by ((repeat (first | (with_reducible exact Up.refl _) | (with_reducible exact U5.out) | (with_reducible refine Up.alloc ?_ _ _) | (with_reducible refine Up.setCell ?_ ?_ _) | (with_reducible refine Up.drewN ?_ _) | (with_reducible refine Up.drew ?_)));all_goals (first | (simp;done) | (simp;omega) | omega))),e0,e1,e2,e3,e4,e5,e6,y0,y1,y2,y3,y4,y5,y6⟩⟩
                          have k20:=Classical.not_not.1 k20
                          have k20:=k20.symm
                          subst k20
                          by_cases k21:¬ (qq=s * s)
                          · have hr:Hid (r=false):=Lib.hid (HO.out (fun h=>by have h0:=h.2.2.2.2.2.2.2.2.2.2.2.2.1;exact absurd (h0 (by omega)).2.2.2 k21))
                            have uk21:(qq != s * s)=true:=by simp [k21]
                            (try clear HO HA1 HP HQ HB HT HSr HLV)
                            go_wp2_with fail
                            go_meet
                            exact ⟨true,rfl,Lib.hid (fun h=>absurd h (by decide)),Lib.hid (fun _=>hr.out),Lib.hid ⟨(by ((repeat (first | (with_reducible exact Up.refl _) | (with_reducible exact U5.out) | (with_reducible refine Up.alloc ?_ _ _) | (with_reducible refine Up.setCell ?_ ?_ _) | (with_reducible refine Up.drewN ?_ _) | (with_reducible refine Up.drew ?_)));all_goals (first | (simp;done) | (simp;omega) | omega))),e0,e1,e2,e3,e4,e5,e6,y0,y1,y2,y3,y4,y5,y6⟩⟩
                          have k21:=Classical.not_not.1 k21
                          subst k21
                          go_wp2_with fail
                          go_meet
                          exact ⟨false,rfl,Lib.hid (by intros;first | trivial | exact ⟨rfl,rfl,rfl,rfl⟩ | simp),Lib.hid (fun h=>absurd h Bool.false_ne_true),Lib.hid ⟨(by ((repeat (first | (with_reducible exact Up.refl _) | (with_reducible exact U5.out) | (with_reducible refine Up.alloc ?_ _ _) | (with_reducible refine Up.setCell ?_ ?_ _) | (with_reducible refine Up.drewN ?_ _) | (with_reducible refine Up.drew ?_)));all_goals (first | (simp;done) | (simp;omega) | omega))),e0,e1,e2,e3,e4,e5,e6,y0,y1,y2,y3,y4,y5,y6⟩⟩
                        have tl:¬ ((p:Int)+1=(n:Int) - 1):=by omega
                        have tlb:((p:Int)+1 == (n:Int) - 1)=false:=beq_eq_false_iff_ne.2 tl
                        go_wp2_with fail
                        go_meet
                        exact ⟨false,rfl,Lib.hid (fun _=>fun h=>absurd h hl),Lib.hid (fun h=>absurd h Bool.false_ne_true),Lib.hid ⟨(by ((repeat (first | (with_reducible exact Up.refl _) | (with_reducible exact U5.out) | (with_reducible refine Up.alloc ?_ _ _) | (with_reducible refine Up.setCell ?_ ?_ _) | (with_reducible refine Up.drewN ?_ _) | (with_reducible refine Up.drew ?_)));all_goals (first | (simp;done) | (simp;omega) | omega))),e0,e1,e2,e3,e4,e5,e6,y0,y1,y2,y3,y4,y5,y6⟩⟩
                    case rest =>
                      (try clear U5)
                      (try clear e0 e1 e2 e3 e4 e5 e6 y0 y1 y2 y3 y4 y5 y6)
                      obtain ⟨bb,rfl,HGd,HBd,HSx⟩:=hcut
                      cases bb with
                      | true =>
                        obtain rfl:r=false:=HBd.out rfl
                        clear HGd HBd
                        clear HO HA1 HP HQ HB HT HSr HLV
                        go_wp2_with fail
                        go_ret
                        exact ⟨rfl,HSx.out.1⟩
                      | false =>
                        clear HBd
                        obtain ⟨u5,e0,e1,e2,e3,e4,e5,e6,y0,y1,y2,y3,y4,y5,y6⟩:=HSx.out
                        have U5:=Lib.hid u5
                        clear u5 HSx
                        have g10:=Lib.hid (HGd.out rfl)
                        clear HGd
                        obtain ⟨⟨a1,a2⟩,⟨a3,a4⟩,⟨a5,a6⟩,⟨a7,a8⟩,⟨a9,a10⟩,⟨a11,a12⟩⟩:=HBP.out
                        simp only at a1 a2 a3 a4 a5 a6 a7 a8 a9 a10 a11 a12
                        obtain ⟨b3,b4,b5,b6⟩:=HPB.out g9.out.1 g9.out.2.1 g9.out.2.2.2
                        have hnp:=HNP.out
                        simp only at hnp
                        have hgg:=G2.out
                        have w6:IntKind.i64.wrap (nn0 - nn)=nn0 - nn:=by rw [IntKind.wrap_i64];omega
                        have w7:IntKind.i64.wrap (s0 - s)=s0 - s:=by rw [IntKind.wrap_i64];omega
                        have w8:IntKind.i64.wrap (qq0 - qq)=qq0 - qq:=by rw [IntKind.wrap_i64];omega
                        have K6:=Lib.hid (part13_any (nn0 - nn) (s0 - s) (qq0 - qq) lo0 hi0 (by omega) (by omega) a7 a8 a9 a10)
                        clear hnp hgg
                        go_upto_region 16 with fail
                        refine (show ∀ W6:World,W6=(wc.alloc (.cells #[.int .i64 sq0,.int .i64 t0,.int .i64 nn0,.int .i64 s0,.int .i64 qq0,.int .i64 lo0,.int .i64 hi0] 56))→Code.wp _ _ _ _ W6 from fun W6 hW6=>?_) _ rfl
                        have e0_:W6.cell? ⟨wr.heap.size,0,none⟩=some (.int .i64 sq):=by rw [hW6];exact ((Up.refl wc).alloc _ _).keep _ _ _ e0
                        have e1_:W6.cell? ⟨wr.heap.size,1,none⟩=some (.int .i64 t):=by rw [hW6];exact ((Up.refl wc).alloc _ _).keep _ _ _ e1
                        have e2_:W6.cell? ⟨wr.heap.size,2,none⟩=some (.int .i64 nn):=by rw [hW6];exact ((Up.refl wc).alloc _ _).keep _ _ _ e2
                        have e3_:W6.cell? ⟨wr.heap.size,3,none⟩=some (.int .i64 s):=by rw [hW6];exact ((Up.refl wc).alloc _ _).keep _ _ _ e3
                        have e4_:W6.cell? ⟨wr.heap.size,4,none⟩=some (.int .i64 qq):=by rw [hW6];exact ((Up.refl wc).alloc _ _).keep _ _ _ e4
                        have e5_:W6.cell? ⟨wr.heap.size,5,none⟩=some (.int .i64 lo):=by rw [hW6];exact ((Up.refl wc).alloc _ _).keep _ _ _ e5
                        have e6_:W6.cell? ⟨wr.heap.size,6,none⟩=some (.int .i64 hi):=by rw [hW6];exact ((Up.refl wc).alloc _ _).keep _ _ _ e6
                        have y0_:W6.cell? ⟨b,o+p * 7,none⟩=some (.int .i64 sq0):=by rw [hW6];exact ((Up.refl wc).alloc _ _).keep _ _ _ y0
                        have y1_:W6.cell? ⟨b,o+p * 7+1,none⟩=some (.int .i64 t0):=by rw [hW6];exact ((Up.refl wc).alloc _ _).keep _ _ _ y1
                        have y2_:W6.cell? ⟨b,o+p * 7+2,none⟩=some (.int .i64 nn0):=by rw [hW6];exact ((Up.refl wc).alloc _ _).keep _ _ _ y2
                        have y3_:W6.cell? ⟨b,o+p * 7+3,none⟩=some (.int .i64 s0):=by rw [hW6];exact ((Up.refl wc).alloc _ _).keep _ _ _ y3
                        have y4_:W6.cell? ⟨b,o+p * 7+4,none⟩=some (.int .i64 qq0):=by rw [hW6];exact ((Up.refl wc).alloc _ _).keep _ _ _ y4
                        have y5_:W6.cell? ⟨b,o+p * 7+5,none⟩=some (.int .i64 lo0):=by rw [hW6];exact ((Up.refl wc).alloc _ _).keep _ _ _ y5
                        have y6_:W6.cell? ⟨b,o+p * 7+6,none⟩=some (.int .i64 hi0):=by rw [hW6];exact ((Up.refl wc).alloc _ _).keep _ _ _ y6
                        have a0_:W6.cell? ⟨wc.heap.size,0,none⟩=some (.int .i64 sq0):=by rw [hW6];simp [go_sem]
                        have a1_:W6.cell? ⟨wc.heap.size,1,none⟩=some (.int .i64 t0):=by rw [hW6];simp [go_sem]
                        have a2_:W6.cell? ⟨wc.heap.size,2,none⟩=some (.int .i64 nn0):=by rw [hW6];simp [go_sem]
                        have a3_:W6.cell? ⟨wc.heap.size,3,none⟩=some (.int .i64 s0):=by rw [hW6];simp [go_sem]
                        have a4_:W6.cell? ⟨wc.heap.size,4,none⟩=some (.int .i64 qq0):=by rw [hW6];simp [go_sem]
                        have a5_:W6.cell? ⟨wc.heap.size,5,none⟩=some (.int .i64 lo0):=by rw [hW6];simp [go_sem]
                        have a6_:W6.cell? ⟨wc.heap.size,6,none⟩=some (.int .i64 hi0):=by rw [hW6];simp [go_sem]
                        have U6:Hid (Up w W6):=Lib.hid (by rw [hW6];exact U5.out.alloc _ _)
                        clear hW6 U5 e0 e1 e2 e3 e4 e5 e6 y0 y1 y2 y3 y4 y5 y6
                        have e0:=e0_
                        have y0:=y0_
                        have e1:=e1_
                        have y1:=y1_
                        have e2:=e2_
                        have y2:=y2_
                        have e3:=e3_
                        have y3:=y3_
                        have e4:=e4_
                        have y4:=y4_
                        have e5:=e5_
                        have y5:=y5_
                        have e6:=e6_
                        have y6:=y6_
                        have U5:=U6
                        clear U6 e0_ e1_ e2_ e3_ e4_ e5_ e6_ y0_ y1_ y2_ y3_ y4_ y5_ y6_
                        go_cut [251] from 217 to 251 (fun tb wx=>∃ bb:Bool,tb=.bool bb∧Hid (bb=false→lo0≤lo∧hi≤hi0∧prtP (nn0 - nn) (s0 - s) (qq0 - qq) lo0 hi0)∧Hid (bb=true→r=false)∧Hid (Up w wx∧wx.cell? ⟨wr.heap.size,0,none⟩=some (.int .i64 sq)∧wx.cell? ⟨wr.heap.size,1,none⟩=some (.int .i64 t)∧wx.cell? ⟨wr.heap.size,2,none⟩=some (.int .i64 nn)∧wx.cell? ⟨wr.heap.size,3,none⟩=some (.int .i64 s)∧wx.cell? ⟨wr.heap.size,4,none⟩=some (.int .i64 qq)∧wx.cell? ⟨wr.heap.size,5,none⟩=some (.int .i64 lo)∧wx.cell? ⟨wr.heap.size,6,none⟩=some (.int .i64 hi)∧wx.cell? ⟨b,o+p * 7,none⟩=some (.int .i64 sq0)∧wx.cell? ⟨b,o+p * 7+1,none⟩=some (.int .i64 t0)∧wx.cell? ⟨b,o+p * 7+2,none⟩=some (.int .i64 nn0)∧wx.cell? ⟨b,o+p * 7+3,none⟩=some (.int .i64 s0)∧wx.cell? ⟨b,o+p * 7+4,none⟩=some (.int .i64 qq0)∧wx.cell? ⟨b,o+p * 7+5,none⟩=some (.int .i64 lo0)∧wx.cell? ⟨b,o+p * 7+6,none⟩=some (.int .i64 hi0)))
                        case first =>
                          as_aux_lemma =>
                            by_cases k22:¬ (lo0≤lo)
                            · have hr:Hid (r=false):=Lib.hid (HO.out (fun h=>by have h0:=h.2.2.2.2.2.2.2.2.2.2.2.2.2.1;exact absurd (h0 (Nat.succ_pos p)) k22))
                              have uk22:decide (lo<lo0)=true:=decide_eq_true (by omega)
                              (try clear HO HA1 HP HQ HB HT HSr HLV)
                              go_wp2_with (go_at_call 84;(with_reducible refine (K6.out _).mono ?_);rintro e w' ⟨rfl,rfl⟩)
                              go_meet
                              exact ⟨true,rfl,Lib.hid (fun h=>absurd h (by decide)),Lib.hid (fun _=>hr.out),Lib.hid ⟨(by ((repeat (first | (with_reducible exact Up.refl _) | (with_reducible exact U5.out) | (with_reducible refine Up.alloc ?_ _ _) | (with_reducible refine Up.setCell ?_ ?_ _) | (with_reducible refine Up.drewN ?_ _) | (with_reducible refine Up.drew ?_)));all_goals (first | (simp;done) | (simp;omega) | omega))),e0,e1,e2,e3,e4,e5,e6,y0,y1,y2,y3,y4,y5,y6⟩⟩
                            have k22:=Classical.not_not.1 k22
                            have uk22:decide (lo<lo0)=false:=decide_eq_false (by omega)
                            by_cases k23:¬ (hi≤hi0)
                            · have hr:Hid (r=false):=Lib.hid (HO.out (fun h=>by have h0:=h.2.2.2.2.2.2.2.2.2.2.2.2.2.2.1;exact absurd (h0 (Nat.succ_pos p)) k23))
                              have uk23:decide (hi0<hi)=true:=decide_eq_true (by omega)
                              (try clear HO HA1 HP HQ HB HT HSr HLV)
                              go_wp2_with (go_at_call 84;(with_reducible refine (K6.out _).mono ?_);rintro e w' ⟨rfl,rfl⟩)
                              go_meet
                              exact ⟨true,rfl,Lib.hid (fun h=>absurd h (by decide)),Lib.hid (fun _=>hr.out),Lib.hid ⟨(by ((repeat (first | (with_reducible exact Up.refl _) | (with_reducible exact U5.out) | (with_reducible refine Up.alloc ?_ _ _) | (with_reducible refine Up.setCell ?_ ?_ _) | (with_reducible refine Up.drewN ?_ _) | (with_reducible refine Up.drew ?_)));all_goals (first | (simp;done) | (simp;omega) | omega))),e0,e1,e2,e3,e4,e5,e6,y0,y1,y2,y3,y4,y5,y6⟩⟩
                            have k23:=Classical.not_not.1 k23
                            have uk23:decide (hi0<hi)=false:=decide_eq_false (by omega)
                            by_cases k24:¬ (prtP (nn0 - nn) (s0 - s) (qq0 - qq) lo0 hi0)
                            · have hr:Hid (r=false):=Lib.hid (HO.out (fun h=>by have h0:=h.2.2.2.2.2.2.2.2.2.2.2.2.2.2.2;exact absurd (h0 (Nat.succ_pos p)) k24))
                              rw [decide_eq_false k24] at K6
                              clear k24
                              (try clear HO HA1 HP HQ HB HT HSr HLV)
                              go_wp2_with (go_at_call 84;(with_reducible refine (K6.out _).mono ?_);rintro e w' ⟨rfl,rfl⟩)
                              go_meet
                              exact ⟨true,rfl,Lib.hid (fun h=>absurd h (by decide)),Lib.hid (fun _=>hr.out),Lib.hid ⟨(by ((repeat (first | (with_reducible exact Up.refl _) | (with_reducible exact U5.out) | (with_reducible refine Up.alloc ?_ _ _) | (with_reducible refine Up.setCell ?_ ?_ _) | (with_reducible refine Up.drewN ?_ _) | (with_reducible refine Up.drew ?_)));all_goals (first | (simp;done) | (simp;omega) | omega))),e0,e1,e2,e3,e4,e5,e6,y0,y1,y2,y3,y4,y5,y6⟩⟩
                            have k24:=Classical.not_not.1 k24
                            rw [decide_eq_true k24] at K6
                            have k_p:=Lib.hid k24
                            clear k24
                            go_wp2_with (go_at_call 84;(with_reducible refine (K6.out _).mono ?_);rintro e w' ⟨rfl,rfl⟩)
                            go_meet
                            exact ⟨false,rfl,Lib.hid (fun _=>⟨k22,k23,k_p.out⟩),Lib.hid (fun h=>absurd h Bool.false_ne_true),Lib.hid ⟨(by ((repeat (first | (with_reducible exact Up.refl _) | (with_reducible exact U5.out) | (with_reducible refine Up.alloc ?_ _ _) | (with_reducible refine Up.setCell ?_ ?_ _) | (with_reducible refine Up.drewN ?_ _) | (with_reducible refine Up.drew ?_)));all_goals (first | (simp;done) | (simp;omega) | omega))),e0,e1,e2,e3,e4,e5,e6,y0,y1,y2,y3,y4,y5,y6⟩⟩
                        case rest =>
                          (try clear U5)
                          (try clear e0 e1 e2 e3 e4 e5 e6 y0 y1 y2 y3 y4 y5 y6)
                          obtain ⟨bb,rfl,HGd,HBd,HSx⟩:=hcut
                          cases bb with
                          | true =>
                            obtain rfl:r=false:=HBd.out rfl
                            clear HGd HBd
                            clear HO HA1 HP HQ HB HT HSr HLV
                            go_wp2_with fail
                            go_ret
                            exact ⟨rfl,HSx.out.1⟩
                          | false =>
                            clear HBd
                            obtain ⟨u5,e0,e1,e2,e3,e4,e5,e6,y0,y1,y2,y3,y4,y5,y6⟩:=HSx.out
                            have U5:=Lib.hid u5
                            clear u5 HSx
                            have g11:=Lib.hid (HGd.out rfl)
                            clear HGd
                            have HA2:=Lib.hid (HA1.out ⟨g0,g1,G2.out,g3,fun _=>g4_,⟨g5,g6⟩,fun _=>g7,fun _=>g8,g9.out.1,g9.out.2.1,g9.out.2.2.1,g9.out.2.2.2,g10.out,fun _=>g11.out.1,fun _=>g11.out.2.1,fun _=>g11.out.2.2⟩)
                            clear HO HA1 HP HQ HB HT HSr HLV
                            go_wp2_with fail
                            go_roundw
                            case rel=>exact ⟨p+1+1,by go_num,by omega,HA2,U5⟩
                            case measure=>simp [intOf];omega
    · obtain rfl:i=n:=by omega
      obtain rfl:r=true:=HT.out HG.out
      clear HT HB HG
      go_wp2_with fail
      go_ret
      exact ⟨rfl,HW.out⟩

end Go.Proofs.YtafkoddgefcpnaaGreat

namespace Go.Proofs.YtafkoddgefcpnaaGreat
open Go.RowKit
set_option linter.unusedVariables false

theorem backE_no {now td:Int} (h:td<now∨16777216<td):backE now td=3:=if_pos h
theorem backE_yes {now td:Int} (h1:now≤td) (h2:td≤16777216):backE now td=0:=if_neg (by omega)
end Go.Proofs.YtafkoddgefcpnaaGreat
