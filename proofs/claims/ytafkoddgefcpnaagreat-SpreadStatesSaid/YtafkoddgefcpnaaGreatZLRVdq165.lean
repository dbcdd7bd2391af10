/- The reference of layer 14: Validate. -/
import Derived.Test.YtafkoddgefcpnaaGreatRows
import Derived.Test.YtafkoddgefcpnaaGreatZKRMkq87
import Derived.Test.YtafkoddgefcpnaaGreatZLOneq156
namespace Go.Proofs.YtafkoddgefcpnaaGreat
open Go.RowKit
set_option linter.unusedVariables false

theorem keepL16 {w w1 w2:World} {b0 o0 b1 o1 b2 o2 b3 o3 b4 o4 b5 o5 b6 o6 b7 o7 b8 o8 b9 o9 b10 o10 b11 o11 b12 o12 b13 o13 b14 o14 b15 o15:Nat} {x0 x1 x2 x3 x4 x5 x6 x7 x8 x9 x10 x11 x12 x13 x14 x15:Value} (hu:Hid (Up w1 w2)) (h:Up w w1∧w1.cell? ⟨b0,o0,none⟩=some x0∧w1.cell? ⟨b1,o1,none⟩=some x1∧w1.cell? ⟨b2,o2,none⟩=some x2∧w1.cell? ⟨b3,o3,none⟩=some x3∧w1.cell? ⟨b4,o4,none⟩=some x4∧w1.cell? ⟨b5,o5,none⟩=some x5∧w1.cell? ⟨b6,o6,none⟩=some x6∧w1.cell? ⟨b7,o7,none⟩=some x7∧w1.cell? ⟨b8,o8,none⟩=some x8∧w1.cell? ⟨b9,o9,none⟩=some x9∧w1.cell? ⟨b10,o10,none⟩=some x10∧w1.cell? ⟨b11,o11,none⟩=some x11∧w1.cell? ⟨b12,o12,none⟩=some x12∧w1.cell? ⟨b13,o13,none⟩=some x13∧w1.cell? ⟨b14,o14,none⟩=some x14∧w1.cell? ⟨b15,o15,none⟩=some x15):Up w w2∧w2.cell? ⟨b0,o0,none⟩=some x0∧w2.cell? ⟨b1,o1,none⟩=some x1∧w2.cell? ⟨b2,o2,none⟩=some x2∧w2.cell? ⟨b3,o3,none⟩=some x3∧w2.cell? ⟨b4,o4,none⟩=some x4∧w2.cell? ⟨b5,o5,none⟩=some x5∧w2.cell? ⟨b6,o6,none⟩=some x6∧w2.cell? ⟨b7,o7,none⟩=some x7∧w2.cell? ⟨b8,o8,none⟩=some x8∧w2.cell? ⟨b9,o9,none⟩=some x9∧w2.cell? ⟨b10,o10,none⟩=some x10∧w2.cell? ⟨b11,o11,none⟩=some x11∧w2.cell? ⟨b12,o12,none⟩=some x12∧w2.cell? ⟨b13,o13,none⟩=some x13∧w2.cell? ⟨b14,o14,none⟩=some x14∧w2.cell? ⟨b15,o15,none⟩=some x15 :=
  ⟨h.1.trans hu.out,hu.out.keep _ _ _ h.2.1,hu.out.keep _ _ _ h.2.2.1,hu.out.keep _ _ _ h.2.2.2.1,hu.out.keep _ _ _ h.2.2.2.2.1,hu.out.keep _ _ _ h.2.2.2.2.2.1,hu.out.keep _ _ _ h.2.2.2.2.2.2.1,hu.out.keep _ _ _ h.2.2.2.2.2.2.2.1,hu.out.keep _ _ _ h.2.2.2.2.2.2.2.2.1,hu.out.keep _ _ _ h.2.2.2.2.2.2.2.2.2.1,hu.out.keep _ _ _ h.2.2.2.2.2.2.2.2.2.2.1,hu.out.keep _ _ _ h.2.2.2.2.2.2.2.2.2.2.2.1,hu.out.keep _ _ _ h.2.2.2.2.2.2.2.2.2.2.2.2.1,hu.out.keep _ _ _ h.2.2.2.2.2.2.2.2.2.2.2.2.2.1,hu.out.keep _ _ _ h.2.2.2.2.2.2.2.2.2.2.2.2.2.2.1,hu.out.keep _ _ _ h.2.2.2.2.2.2.2.2.2.2.2.2.2.2.2.1,hu.out.keep _ _ _ h.2.2.2.2.2.2.2.2.2.2.2.2.2.2.2.2⟩
set_option maxHeartbeats 4000000 in
set_option maxRecDepth 100000 in
theorem rvalidate14_good (v q c now seq:Int) (n k:Nat) (A:Option Addr) (X:List Mrk) (hm:mayC v q c now=true) (hX:mrkB 4 v c now seq X=true) (hn:n≤50000) (w:World) (hS:SG cM w A n X) :
    Calls Tryz.prog 14 #[.agg #[.int .i64 v,.int .i64 q,.int .i64 c,.int .i64 now,.int .i64 seq,.slice A n k]] w fun e w'=>e=.returned (.int .i64 (stPE v q c now seq X))∧Up w w':=by
  have HL:=Lib.hid hS.1
  have HS:=Lib.hid hS
  have hm4:mayM 4 v q c now=true:=by unfold mayM;rw [hm];rfl
  have KR:=Lib.hid (fun W (h:SG cM W A n X)=>rmarks_up 4 v q c now seq n k A X hm4 hn W h)
  rw [hX] at KR
  have KM:=Lib.hid (rmay_any v c now)
  have KK:=Lib.hid (rmayK11_any q)
  rw [(mayC_true hm).1] at KM
  rw [decide_eq_true (mayC_true hm).2] at KK
  have HB:Hid (∀ j,j<n→1<j→clQ q (X.getD (j - 2) mk0) (X.getD j mk0)=true→stPE v q c now seq X=2):=Lib.hid (fun j hj h1 h=>stPE_no (by unfold stP;rw [dsB_bad (by rw [HL.out];exact hj) h1 h,Bool.and_false,Bool.and_false]))
  have HT:Hid ((∀ j,j<n→1<j→clQ q (X.getD (j - 2) mk0) (X.getD j mk0)=false)→stPE v q c now seq X=0):=Lib.hid (fun h=>stPE_yes (stP_yes hm hX (decide_eq_true (by rw [HL.out];exact h))))
  generalize stPE v q c now seq X=r at *
  have KC:=Lib.hid (fun (P M:Mrk)=>rclose14_up P.sq P.t P.n P.s P.q P.lo P.hi M.sq M.t M.n M.s M.q M.lo M.hi q)
  clear hS hm hX hm4
  go_enter Tryz.func14,Tryz.ntmps14
  go_wp2_with (first | (go_at_call 43;(with_reducible refine (KM.out _).mono ?_);rintro e w' ⟨rfl,rfl⟩) | (go_at_call 44;(with_reducible refine (KK.out _).mono ?_);rintro e w' ⟨rfl,rfl⟩) | (go_at_call 45;(with_reducible refine (KR.out _ (HS.out.up ((Up.refl w).alloc _ _))).mono ?_);rintro e w1 ⟨rfl,hu⟩;have HU1:=Lib.hid (((Up.refl w).alloc _ _).trans hu);have c1:=hu.keep w.heap.size 1 (.int .i64 q) (by simp [go_sem]);have c5:=hu.keep w.heap.size 5 (.slice A n k) (by simp [go_sem]);clear hu))
  clear KR KM KK
  go_loopw [3] (fun t wr=>∃ p:Nat,t=.int .i64 ((p:Int)+2)∧(p+2≤n∨p=0)∧Hid (∀ j,j<p+2→1<j→clQ q (X.getD (j - 2) mk0) (X.getD j mk0)=false)∧Hid (Up w wr∧wr.cell? ⟨w.heap.size,1,none⟩=some (.int .i64 q)∧wr.cell? ⟨w.heap.size,5,none⟩=some (.slice A n k))) (fun t _=>n+2 - (intOf t).toNat)
  case atStart=>exact ⟨0,by simp,Or.inr rfl,Lib.hid (fun j h1 h2=>absurd h1 (by omega)),Lib.hid ⟨HU1.out,c1,c5⟩⟩
  case round =>
    clear c1 c5 HU1
    obtain ⟨p,rfl,hp,HG,HW⟩:=hrel
    obtain ⟨u7,f1,f5⟩:=HW.out
    by_cases hx:p+2<n
    · obtain ⟨b,o,rfl,_⟩:=mrk_at (HS.out.up u7) mk0 hx
      obtain ⟨x0,x1,x2,x3,x4,x5,x6⟩:=mrk_prev (HS.out.up u7) hx
      obtain ⟨d0,d1,d2,d3,d4,d5,d6⟩:=mrk_prev (HS.out.up u7) (show p<n by omega)
      have K7:=Lib.hid (KC.out (X.getD p mk0) (X.getD (p+2) mk0))
      have HX:Hid (clQ q (X.getD p mk0) (X.getD (p+2) mk0)=true→r=2):=Lib.hid (fun h=>HB.out (p+2) hx (by omega) h)
      have HA:Hid (clQ q (X.getD p mk0) (X.getD (p+2) mk0)=false→∀ j,j<p+1+2→1<j→clQ q (X.getD (j - 2) mk0) (X.getD j mk0)=false):=Lib.hid (fun h j h1 h2=>by
        rcases Nat.lt_or_ge j (p+2) with y | y
        · exact HG.out j y h2
        · obtain rfl:j=p+2:=by omega
          exact h)
      generalize X.getD p mk0=Q0 at *
      generalize X.getD (p+2) mk0=M at *
      obtain ⟨sq,t,nn,s,qq,lo,hi⟩:=M
      obtain ⟨sq1,t1,nn1,s1,qq1,lo1,hi1⟩:=Q0
      simp only at d0 d1 d2 d3 d4 d5 d6 x0 x1 x2 x3 x4 x5 x6 K7
      have f20:(p:Int)+2<n:=by omega
      have f21:(p:Int)<n:=by omega
      have f30:(0:Int)≤(p:Int)+2:=by omega
      have f31:(0:Int)≤p:=by omega
      have f34:((p:Int)+2).toNat=p+2:=by omega
      have f35:(p:Int)+2 - 2=p:=by omega
      have f36:IntKind.i64.wrap (p:Int)=p:=by rw [IntKind.wrap_i64];omega
      have HSS:Hid (Up w wr∧wr.cell? ⟨w.heap.size,1,none⟩=some (.int .i64 q)∧wr.cell? ⟨w.heap.size,5,none⟩=some (.slice (some ⟨b,o,none⟩) n k)∧wr.cell? ⟨b,o+p * 7,none⟩=some (.int .i64 sq1)∧wr.cell? ⟨b,o+p * 7+1,none⟩=some (.int .i64 t1)∧wr.cell? ⟨b,o+p * 7+2,none⟩=some (.int .i64 nn1)∧wr.cell? ⟨b,o+p * 7+3,none⟩=some (.int .i64 s1)∧wr.cell? ⟨b,o+p * 7+4,none⟩=some (.int .i64 qq1)∧wr.cell? ⟨b,o+p * 7+5,none⟩=some (.int .i64 lo1)∧wr.cell? ⟨b,o+p * 7+6,none⟩=some (.int .i64 hi1)∧wr.cell? ⟨b,o+(p+2) * 7,none⟩=some (.int .i64 sq)∧wr.cell? ⟨b,o+(p+2) * 7+1,none⟩=some (.int .i64 t)∧wr.cell? ⟨b,o+(p+2) * 7+2,none⟩=some (.int .i64 nn)∧wr.cell? ⟨b,o+(p+2) * 7+3,none⟩=some (.int .i64 s)∧wr.cell? ⟨b,o+(p+2) * 7+4,none⟩=some (.int .i64 qq)∧wr.cell? ⟨b,o+(p+2) * 7+5,none⟩=some (.int .i64 lo)∧wr.cell? ⟨b,o+(p+2) * 7+6,none⟩=some (.int .i64 hi)):=Lib.hid ⟨u7,f1,f5,d0,d1,d2,d3,d4,d5,d6,x0,x1,x2,x3,x4,x5,x6⟩
      clear d0 d1 d2 d3 d4 d5 d6 x0 x1 x2 x3 x4 x5 x6 HG HW
      cases hk:clQ q ⟨sq1,t1,nn1,s1,qq1,lo1,hi1⟩ ⟨sq,t,nn,s,qq,lo,hi⟩ with
      | true =>
        obtain rfl:r=2:=HX.out hk
        rw [hk] at K7
        clear hk HX HA HB HT
        go_wp2_with fail
        refine wp_region_held_drew (S:=fun w'=>Up w w'∧w'.cell? ⟨w.heap.size,1,none⟩=some (.int .i64 q)∧w'.cell? ⟨w.heap.size,5,none⟩=some (.slice (some ⟨b,o,none⟩) n k)∧w'.cell? ⟨b,o+p * 7,none⟩=some (.int .i64 sq1)∧w'.cell? ⟨b,o+p * 7+1,none⟩=some (.int .i64 t1)∧w'.cell? ⟨b,o+p * 7+2,none⟩=some (.int .i64 nn1)∧w'.cell? ⟨b,o+p * 7+3,none⟩=some (.int .i64 s1)∧w'.cell? ⟨b,o+p * 7+4,none⟩=some (.int .i64 qq1)∧w'.cell? ⟨b,o+p * 7+5,none⟩=some (.int .i64 lo1)∧w'.cell? ⟨b,o+p * 7+6,none⟩=some (.int .i64 hi1)∧w'.cell? ⟨b,o+(p+2) * 7,none⟩=some (.int .i64 sq)∧w'.cell? ⟨b,o+(p+2) * 7+1,none⟩=some (.int .i64 t)∧w'.cell? ⟨b,o+(p+2) * 7+2,none⟩=some (.int .i64 nn)∧w'.cell? ⟨b,o+(p+2) * 7+3,none⟩=some (.int .i64 s)∧w'.cell? ⟨b,o+(p+2) * 7+4,none⟩=some (.int .i64 qq)∧w'.cell? ⟨b,o+(p+2) * 7+5,none⟩=some (.int .i64 lo)∧w'.cell? ⟨b,o+(p+2) * 7+6,none⟩=some (.int .i64 hi)) (by kernel_rfl) ?hB1 (fun hHeld=>?_)
        case hB1=>(first | (with_reducible assumption) | (with_reducible exact keepL16 (Lib.hid (Up.refl _).drew) HSS.out) | (with_reducible exact HX2.out))
        refine takeT 0 rfl (by assumption) ?_
        (try simp only [Act.put,stpA,stpB,stpC])
        refine takeT 1 rfl (by assumption) ?_
        (try simp only [Act.put,stpA,stpB,stpC])
        refine takeT 2 rfl (by assumption) ?_
        (try simp only [Act.put,stpA,stpB,stpC])
        refine takeT 3 rfl (by assumption) ?_
        (try simp only [Act.put,stpA,stpB,stpC])
        refine takeT 4 rfl (by assumption) ?_
        (try simp only [Act.put,stpA,stpB,stpC])
        refine takeT 5 rfl (by assumption) ?_
        (try simp only [Act.put,stpA,stpB,stpC])
        refine takeT 6 rfl (by assumption) ?_
        (try simp only [Act.put,stpA,stpB,stpC])
        refine takeT 7 rfl (by assumption) ?_
        (try simp only [Act.put,stpA,stpB,stpC])
        refine takeT 8 rfl (by assumption) ?_
        (try simp only [Act.put,stpA,stpB,stpC])
        refine takeT 9 rfl (by assumption) ?_
        (try simp only [Act.put,stpA,stpB,stpC])
        refine takeT 10 rfl (by assumption) ?_
        (try simp only [Act.put,stpA,stpB,stpC])
        refine takeT 11 rfl (by assumption) ?_
        (try simp only [Act.put,stpA,stpB,stpC])
        refine takeT 12 rfl (by assumption) ?_
        (try simp only [Act.put,stpA,stpB,stpC])
        refine wpAnyH_ready (rs:=[13]) (by kernel_rfl) (by simp) ?_
        refine AllReadyH.cons (o:=⟨_,_,_,_,_,_⟩) rfl (fun K hK=>?_) AllReadyH.nil
        go_simp
        (go_at_call 35;(with_reducible refine (K7.out _).mono ?_);rintro e w2 ⟨rfl,hu⟩;have HU2:=Lib.hid hu;have HX2:=Lib.hid (keepL16 HU2 hHeld);clear hu)
        (try go_wp2_with fail)
        refine hK.out _ _ ?hB15 (fun hHeld=>?_)
        case hB15=>(first | (with_reducible assumption) | (with_reducible exact keepL16 (Lib.hid (Up.refl _).drew) HSS.out) | (with_reducible exact HX2.out))
        clear hK K
        (try simp only [Act.put,stpA,stpB,stpC])
        refine wpAnyH_done (by kernel_rfl) ?_ _
        go_wp2_with fail
        go_ret
        exact ⟨rfl,HX2.out.1⟩
      | false =>
        have HA2:=Lib.hid (HA.out hk)
        rw [hk] at K7
        clear hk HX HA HB HT
        go_wp2_with fail
        refine wp_region_held_drew (S:=fun w'=>Up w w'∧w'.cell? ⟨w.heap.size,1,none⟩=some (.int .i64 q)∧w'.cell? ⟨w.heap.size,5,none⟩=some (.slice (some ⟨b,o,none⟩) n k)∧w'.cell? ⟨b,o+p * 7,none⟩=some (.int .i64 sq1)∧w'.cell? ⟨b,o+p * 7+1,none⟩=some (.int .i64 t1)∧w'.cell? ⟨b,o+p * 7+2,none⟩=some (.int .i64 nn1)∧w'.cell? ⟨b,o+p * 7+3,none⟩=some (.int .i64 s1)∧w'.cell? ⟨b,o+p * 7+4,none⟩=some (.int .i64 qq1)∧w'.cell? ⟨b,o+p * 7+5,none⟩=some (.int .i64 lo1)∧w'.cell? ⟨b,o+p * 7+6,none⟩=some (.int .i64 hi1)∧w'.cell? ⟨b,o+(p+2) * 7,none⟩=some (.int .i64 sq)∧w'.cell? ⟨b,o+(p+2) * 7+1,none⟩=some (.int .i64 t)∧w'.cell? ⟨b,o+(p+2) * 7+2,none⟩=some (.int .i64 nn)∧w'.cell? ⟨b,o+(p+2) * 7+3,none⟩=some (.int .i64 s)∧w'.cell? ⟨b,o+(p+2) * 7+4,none⟩=some (.int .i64 qq)∧w'.cell? ⟨b,o+(p+2) * 7+5,none⟩=some (.int .i64 lo)∧w'.cell? ⟨b,o+(p+2) * 7+6,none⟩=some (.int .i64 hi)) (by kernel_rfl) ?hB16 (fun hHeld=>?_)
        case hB16=>(first | (with_reducible assumption) | (with_reducible exact keepL16 (Lib.hid (Up.refl _).drew) HSS.out) | (with_reducible exact HX2.out))
        refine takeT 0 rfl (by assumption) ?_
        (try simp only [Act.put,stpA,stpB,stpC])
        refine takeT 1 rfl (by assumption) ?_
        (try simp only [Act.put,stpA,stpB,stpC])
        refine takeT 2 rfl (by assumption) ?_
        (try simp only [Act.put,stpA,stpB,stpC])
        refine takeT 3 rfl (by assumption) ?_
        (try simp only [Act.put,stpA,stpB,stpC])
        refine takeT 4 rfl (by assumption) ?_
        (try simp only [Act.put,stpA,stpB,stpC])
        refine takeT 5 rfl (by assumption) ?_
        (try simp only [Act.put,stpA,stpB,stpC])
        refine takeT 6 rfl (by assumption) ?_
        (try simp only [Act.put,stpA,stpB,stpC])
        refine takeT 7 rfl (by assumption) ?_
        (try simp only [Act.put,stpA,stpB,stpC])
        refine takeT 8 rfl (by assumption) ?_
        (try simp only [Act.put,stpA,stpB,stpC])
        refine takeT 9 rfl (by assumption) ?_
        (try simp only [Act.put,stpA,stpB,stpC])
        refine takeT 10 rfl (by assumption) ?_
        (try simp only [Act.put,stpA,stpB,stpC])
        refine takeT 11 rfl (by assumption) ?_
        (try simp only [Act.put,stpA,stpB,stpC])
        refine takeT 12 rfl (by assumption) ?_
        (try simp only [Act.put,stpA,stpB,stpC])
        refine wpAnyH_ready (rs:=[13]) (by kernel_rfl) (by simp) ?_
        refine AllReadyH.cons (o:=⟨_,_,_,_,_,_⟩) rfl (fun K hK=>?_) AllReadyH.nil
        go_simp
        (go_at_call 35;(with_reducible refine (K7.out _).mono ?_);rintro e w2 ⟨rfl,hu⟩;have HU2:=Lib.hid hu;have HX2:=Lib.hid (keepL16 HU2 hHeld);clear hu)
        (try go_wp2_with fail)
        refine hK.out _ _ ?hB30 (fun hHeld=>?_)
        case hB30=>(first | (with_reducible assumption) | (with_reducible exact keepL16 (Lib.hid (Up.refl _).drew) HSS.out) | (with_reducible exact HX2.out))
        clear hK K
        (try simp only [Act.put,stpA,stpB,stpC])
        refine wpAnyH_done (by kernel_rfl) ?_ _
        obtain ⟨u8,g1,g5,_⟩:=hHeld
        (repeat clear ‹Up w _∧_›)
        go_wp2_with fail
        go_roundw
        case rel=>exact ⟨p+1,by go_num,by omega,HA2,Lib.hid ⟨u8,g1,g5⟩⟩
        case measure=>simp [intOf];omega
    · obtain rfl:r=0:=HT.out (fun j h1 h2=>HG.out j (by omega) h2)
      have f20:decide ((p:Int)+2<n)=false:=decide_eq_false (by omega)
      clear HT HB HG
      go_wp2_with fail
      go_ret
      exact ⟨rfl,u7⟩

set_option maxHeartbeats 4000000 in
set_option maxRecDepth 100000 in
theorem rvalidate14_up (v q c now seq:Int) (n k:Nat) (A:Option Addr) (X:List Mrk) (hn:n≤50000) (w:World) (hS:SG cM w A n X) :
    Calls Tryz.prog 14 #[.agg #[.int .i64 v,.int .i64 q,.int .i64 c,.int .i64 now,.int .i64 seq,.slice A n k]] w fun e w'=>e=.returned (.int .i64 (stPE v q c now seq X))∧Up w w':=by
  have KM:=Lib.hid (rmay_any v c now)
  have KK:=Lib.hid (rmayK11_any q)
  have HS:=Lib.hid hS
  cases hm:mayC v q c now with
  | false =>
    rw [stPE_no (show stP v q c now seq X=false by unfold stP;rw [hm];rfl)]
    unfold mayC at hm
    cases hb:mayB v c now with
    | false =>
      rw [hb] at KM
      clear hm hb hS HS
      go_enter Tryz.func14,Tryz.ntmps14
      go_wp2_with (first | (go_at_call 43;(with_reducible refine (KM.out _).mono ?_);rintro e w' ⟨rfl,rfl⟩) | (go_at_call 44;(with_reducible refine (KK.out _).mono ?_);rintro e w' ⟨rfl,rfl⟩))
      go_ret
      exact ⟨rfl,(Up.refl w).alloc _ _⟩
    | true =>
      rw [hb] at KM hm
      rw [Bool.true_and] at hm
      rw [hm] at KK
      clear hm hb hS HS
      go_enter Tryz.func14,Tryz.ntmps14
      go_wp2_with (first | (go_at_call 43;(with_reducible refine (KM.out _).mono ?_);rintro e w' ⟨rfl,rfl⟩) | (go_at_call 44;(with_reducible refine (KK.out _).mono ?_);rintro e w' ⟨rfl,rfl⟩))
      go_ret
      exact ⟨rfl,(Up.refl w).alloc _ _⟩
  | true =>
  cases hx:mrkB 4 v c now seq X with
  | true=>exact rvalidate14_good v q c now seq n k A X hm hx hn w hS
  | false =>
    rw [stPE_no (show stP v q c now seq X=false by unfold stP;rw [hx,Bool.false_and,Bool.and_false])]
    have hm4:mayM 4 v q c now=true:=by unfold mayM;rw [hm];rfl
    have KR:=Lib.hid (fun W (h:SG cM W A n X)=>rmarks_up 4 v q c now seq n k A X hm4 hn W h)
    rw [hx] at KR
    rw [(mayC_true hm).1] at KM
    rw [decide_eq_true (mayC_true hm).2] at KK
    clear hm hx hS hm4
    go_enter Tryz.func14,Tryz.ntmps14
    go_wp2_with (first | (go_at_call 43;(with_reducible refine (KM.out _).mono ?_);rintro e w' ⟨rfl,rfl⟩) | (go_at_call 44;(with_reducible refine (KK.out _).mono ?_);rintro e w' ⟨rfl,rfl⟩) | (go_at_call 45;(with_reducible refine (KR.out _ (HS.out.up ((Up.refl w).alloc _ _))).mono ?_);rintro e w1 ⟨rfl,hu⟩;have HU1:=Lib.hid (((Up.refl w).alloc _ _).trans hu);have c1:=hu.keep w.heap.size 1 (.int .i64 q) (by simp [go_sem]);have c5:=hu.keep w.heap.size 5 (.slice A n k) (by simp [go_sem]);clear hu))
    go_ret
    exact ⟨rfl,HU1.out⟩
end Go.Proofs.YtafkoddgefcpnaaGreat
