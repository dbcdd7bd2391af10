/- Texts of these claims, one after the other. -/
import Derived.Test.YtafkoddgefcpnaaGreatRows
import Derived.Test.YtafkoddgefcpnaaGreatZGStepq0
import Derived.Test.YtafkoddgefcpnaaGreatZKMemq70
namespace Go.Proofs.YtafkoddgefcpnaaGreat
open Go.RowKit
set_option linter.unusedVariables false

theorem keepK15 {w w1 w2:World} {b0 o0 b1 o1 b2 o2 b3 o3 b4 o4 b5 o5 b6 o6 b7 o7 b8 o8 b9 o9 b10 o10 b11 o11 b12 o12 b13 o13 b14 o14:Nat} {x0 x1 x2 x3 x4 x5 x6 x7 x8 x9 x10 x11 x12 x13 x14:Value} (hu:Hid (Up w1 w2)) (h:Up w w1∧w1.cell? ⟨b0,o0,none⟩=some x0∧w1.cell? ⟨b1,o1,none⟩=some x1∧w1.cell? ⟨b2,o2,none⟩=some x2∧w1.cell? ⟨b3,o3,none⟩=some x3∧w1.cell? ⟨b4,o4,none⟩=some x4∧w1.cell? ⟨b5,o5,none⟩=some x5∧w1.cell? ⟨b6,o6,none⟩=some x6∧w1.cell? ⟨b7,o7,none⟩=some x7∧w1.cell? ⟨b8,o8,none⟩=some x8∧w1.cell? ⟨b9,o9,none⟩=some x9∧w1.cell? ⟨b10,o10,none⟩=some x10∧w1.cell? ⟨b11,o11,none⟩=some x11∧w1.cell? ⟨b12,o12,none⟩=some x12∧w1.cell? ⟨b13,o13,none⟩=some x13∧w1.cell? ⟨b14,o14,none⟩=some x14):Up w w2∧w2.cell? ⟨b0,o0,none⟩=some x0∧w2.cell? ⟨b1,o1,none⟩=some x1∧w2.cell? ⟨b2,o2,none⟩=some x2∧w2.cell? ⟨b3,o3,none⟩=some x3∧w2.cell? ⟨b4,o4,none⟩=some x4∧w2.cell? ⟨b5,o5,none⟩=some x5∧w2.cell? ⟨b6,o6,none⟩=some x6∧w2.cell? ⟨b7,o7,none⟩=some x7∧w2.cell? ⟨b8,o8,none⟩=some x8∧w2.cell? ⟨b9,o9,none⟩=some x9∧w2.cell? ⟨b10,o10,none⟩=some x10∧w2.cell? ⟨b11,o11,none⟩=some x11∧w2.cell? ⟨b12,o12,none⟩=some x12∧w2.cell? ⟨b13,o13,none⟩=some x13∧w2.cell? ⟨b14,o14,none⟩=some x14 :=
  ⟨h.1.trans hu.out,hu.out.keep _ _ _ h.2.1,hu.out.keep _ _ _ h.2.2.1,hu.out.keep _ _ _ h.2.2.2.1,hu.out.keep _ _ _ h.2.2.2.2.1,hu.out.keep _ _ _ h.2.2.2.2.2.1,hu.out.keep _ _ _ h.2.2.2.2.2.2.1,hu.out.keep _ _ _ h.2.2.2.2.2.2.2.1,hu.out.keep _ _ _ h.2.2.2.2.2.2.2.2.1,hu.out.keep _ _ _ h.2.2.2.2.2.2.2.2.2.1,hu.out.keep _ _ _ h.2.2.2.2.2.2.2.2.2.2.1,hu.out.keep _ _ _ h.2.2.2.2.2.2.2.2.2.2.2.1,hu.out.keep _ _ _ h.2.2.2.2.2.2.2.2.2.2.2.2.1,hu.out.keep _ _ _ h.2.2.2.2.2.2.2.2.2.2.2.2.2.1,hu.out.keep _ _ _ h.2.2.2.2.2.2.2.2.2.2.2.2.2.2.1,hu.out.keep _ _ _ h.2.2.2.2.2.2.2.2.2.2.2.2.2.2.2⟩
theorem keepK21 {w w1 w2:World} {b0 o0 b1 o1 b2 o2 b3 o3 b4 o4 b5 o5 b6 o6 b7 o7 b8 o8 b9 o9 b10 o10 b11 o11 b12 o12 b13 o13 b14 o14 b15 o15 b16 o16 b17 o17 b18 o18 b19 o19 b20 o20:Nat} {x0 x1 x2 x3 x4 x5 x6 x7 x8 x9 x10 x11 x12 x13 x14 x15 x16 x17 x18 x19 x20:Value} (hu:Hid (Up w1 w2)) (h:Up w w1∧w1.cell? ⟨b0,o0,none⟩=some x0∧w1.cell? ⟨b1,o1,none⟩=some x1∧w1.cell? ⟨b2,o2,none⟩=some x2∧w1.cell? ⟨b3,o3,none⟩=some x3∧w1.cell? ⟨b4,o4,none⟩=some x4∧w1.cell? ⟨b5,o5,none⟩=some x5∧w1.cell? ⟨b6,o6,none⟩=some x6∧w1.cell? ⟨b7,o7,none⟩=some x7∧w1.cell? ⟨b8,o8,none⟩=some x8∧w1.cell? ⟨b9,o9,none⟩=some x9∧w1.cell? ⟨b10,o10,none⟩=some x10∧w1.cell? ⟨b11,o11,none⟩=some x11∧w1.cell? ⟨b12,o12,none⟩=some x12∧w1.cell? ⟨b13,o13,none⟩=some x13∧w1.cell? ⟨b14,o14,none⟩=some x14∧w1.cell? ⟨b15,o15,none⟩=some x15∧w1.cell? ⟨b16,o16,none⟩=some x16∧w1.cell? ⟨b17,o17,none⟩=some x17∧w1.cell? ⟨b18,o18,none⟩=some x18∧w1.cell? ⟨b19,o19,none⟩=some x19∧w1.cell? ⟨b20,o20,none⟩=some x20):Up w w2∧w2.cell? ⟨b0,o0,none⟩=some x0∧w2.cell? ⟨b1,o1,none⟩=some x1∧w2.cell? ⟨b2,o2,none⟩=some x2∧w2.cell? ⟨b3,o3,none⟩=some x3∧w2.cell? ⟨b4,o4,none⟩=some x4∧w2.cell? ⟨b5,o5,none⟩=some x5∧w2.cell? ⟨b6,o6,none⟩=some x6∧w2.cell? ⟨b7,o7,none⟩=some x7∧w2.cell? ⟨b8,o8,none⟩=some x8∧w2.cell? ⟨b9,o9,none⟩=some x9∧w2.cell? ⟨b10,o10,none⟩=some x10∧w2.cell? ⟨b11,o11,none⟩=some x11∧w2.cell? ⟨b12,o12,none⟩=some x12∧w2.cell? ⟨b13,o13,none⟩=some x13∧w2.cell? ⟨b14,o14,none⟩=some x14∧w2.cell? ⟨b15,o15,none⟩=some x15∧w2.cell? ⟨b16,o16,none⟩=some x16∧w2.cell? ⟨b17,o17,none⟩=some x17∧w2.cell? ⟨b18,o18,none⟩=some x18∧w2.cell? ⟨b19,o19,none⟩=some x19∧w2.cell? ⟨b20,o20,none⟩=some x20 :=
  ⟨h.1.trans hu.out,hu.out.keep _ _ _ h.2.1,hu.out.keep _ _ _ h.2.2.1,hu.out.keep _ _ _ h.2.2.2.1,hu.out.keep _ _ _ h.2.2.2.2.1,hu.out.keep _ _ _ h.2.2.2.2.2.1,hu.out.keep _ _ _ h.2.2.2.2.2.2.1,hu.out.keep _ _ _ h.2.2.2.2.2.2.2.1,hu.out.keep _ _ _ h.2.2.2.2.2.2.2.2.1,hu.out.keep _ _ _ h.2.2.2.2.2.2.2.2.2.1,hu.out.keep _ _ _ h.2.2.2.2.2.2.2.2.2.2.1,hu.out.keep _ _ _ h.2.2.2.2.2.2.2.2.2.2.2.1,hu.out.keep _ _ _ h.2.2.2.2.2.2.2.2.2.2.2.2.1,hu.out.keep _ _ _ h.2.2.2.2.2.2.2.2.2.2.2.2.2.1,hu.out.keep _ _ _ h.2.2.2.2.2.2.2.2.2.2.2.2.2.2.1,hu.out.keep _ _ _ h.2.2.2.2.2.2.2.2.2.2.2.2.2.2.2.1,hu.out.keep _ _ _ h.2.2.2.2.2.2.2.2.2.2.2.2.2.2.2.2.1,hu.out.keep _ _ _ h.2.2.2.2.2.2.2.2.2.2.2.2.2.2.2.2.2.1,hu.out.keep _ _ _ h.2.2.2.2.2.2.2.2.2.2.2.2.2.2.2.2.2.2.1,hu.out.keep _ _ _ h.2.2.2.2.2.2.2.2.2.2.2.2.2.2.2.2.2.2.2.1,hu.out.keep _ _ _ h.2.2.2.2.2.2.2.2.2.2.2.2.2.2.2.2.2.2.2.2.1,hu.out.keep _ _ _ h.2.2.2.2.2.2.2.2.2.2.2.2.2.2.2.2.2.2.2.2.2⟩
theorem mrk_prev {w:World} {b o n k:Nat} {L:List Mrk} (h:SG cM w (some ⟨b,o,none⟩) n L) (hk:k<n) :
    w.cell? ⟨b,o+k * 7,none⟩=some (.int .i64 (L.getD k mk0).sq)∧w.cell? ⟨b,o+k * 7+1,none⟩=some (.int .i64 (L.getD k mk0).t)∧w.cell? ⟨b,o+k * 7+2,none⟩=some (.int .i64 (L.getD k mk0).n)∧w.cell? ⟨b,o+k * 7+3,none⟩=some (.int .i64 (L.getD k mk0).s)∧w.cell? ⟨b,o+k * 7+4,none⟩=some (.int .i64 (L.getD k mk0).q)∧w.cell? ⟨b,o+k * 7+5,none⟩=some (.int .i64 (L.getD k mk0).lo)∧w.cell? ⟨b,o+k * 7+6,none⟩=some (.int .i64 (L.getD k mk0).hi):=by
  obtain ⟨b2,o2,e,hc⟩:=mrk_at h mk0 hk
  injection e with e;injection e with e1 e2
  subst e1 e2
  exact hc
set_option maxHeartbeats 4000000 in
set_option maxRecDepth 100000 in
theorem validMarks_one (g v q c now seq:Int) (k:Nat) (A:Option Addr) (X:List Mrk) (hm:mayM g v q c now=true) (hs:sqB seq=true) (hn:1≤50000) (w:World) (hS:SG cM w A 1 X) :
    Calls Tryz.prog 81 #[.agg #[.int .i64 g,.int .i64 v,.int .i64 q,.int .i64 c,.int .i64 now,.int .i64 seq,.slice A 1 k]] w fun e w'=>e=.returned (.bool (mrkB g v c now seq X))∧Up w w':=by
  have HL:=Lib.hid hS.1
  have HS:=Lib.hid hS
  obtain ⟨hg,hm2⟩:=mayM_true hm
  obtain ⟨g1,g2,hc,g4⟩:=mayC_facts hm2
  have hs2:=sqB_true hs
  have HB:=Lib.hid (fun j (hj:j<1) (h:¬ pkB g v c now seq X j)=>mrkB_nopk (X:=X) hm (by rw [HL.out];exact hj) h)
  have HB2:=Lib.hid (fun (hj:0<1)=>mrkB_nola (v:=v) (q:=q) (X:=X) (seq:=seq) (c:=c) hm (by rw [HL.out];exact hj))
  have HT:=Lib.hid (fun (h1:∀ j,j<1→pkB g v c now seq X j) h2=>mrkB_pk (X:=X) hm hs (by rw [HL.out];exact h1) h2)
  generalize mrkB g v c now seq X=r at *
  clear hS hm hm2 g1 g2 g4 hs
  go_enter Tryz.func81,Tryz.ntmps81
  go_wp2_with fail
  go_loopw [8] (fun t wr=>∃ i:Nat,t=.int .i64 i∧i≤1∧Hid (∀ j,j<i→pkB g v c now seq X j)∧Hid (Up w wr∧wr.cell? ⟨w.heap.size,0,none⟩=some (.int .i64 g)∧wr.cell? ⟨w.heap.size,1,none⟩=some (.int .i64 v)∧wr.cell? ⟨w.heap.size,2,none⟩=some (.int .i64 q)∧wr.cell? ⟨w.heap.size,3,none⟩=some (.int .i64 c)∧wr.cell? ⟨w.heap.size,4,none⟩=some (.int .i64 now)∧wr.cell? ⟨w.heap.size,5,none⟩=some (.int .i64 seq)∧wr.cell? ⟨w.heap.size,6,none⟩=some (.slice A 1 k))) (fun t _=>1 - (intOf t).toNat)
  case atStart=>exact ⟨0,rfl,Nat.zero_le _,Lib.hid (fun j hj=>absurd hj (Nat.not_lt_zero _)),Lib.hid ⟨(Up.refl w).alloc _ _,by simp [go_sem],by simp [go_sem],by simp [go_sem],by simp [go_sem],by simp [go_sem],by simp [go_sem],by simp [go_sem]⟩⟩
  case round =>
    obtain ⟨i,rfl,hin,HG,HW⟩:=hrel
    obtain ⟨u7,f0,f1,f2,f3,f4,f5,f6⟩:=HW.out
    have HUw:=Lib.hid u7
    have hlt:w.heap.size<wr.heap.size:=World.block_lt_of_cell? _ _ f0
    by_cases hi':i<1
    · have HSr:=Lib.hid (HS.out.up u7)
      obtain ⟨b,o,rfl,d0,d1,d2,d3,d4,d5,d6⟩:=mrk_at HSr.out mk0 hi'
      have HO:=Lib.hid (HB.out i hi')
      have HX:Hid (mkB g c now seq (X.getD i mk0)=false→r=false):=Lib.hid (fun h=>HO.out (fun hk=>by rw [hk.1] at h;cases h))
      have HY:Hid (0<i→spB (X.getD (i - 1) mk0) (X.getD i mk0)=false→r=false):=Lib.hid (fun h0 h=>HO.out (fun hk=>by rw [hk.2.1 h0] at h;cases h))
      have HZ:Hid ((0<i∨1=1)→liveB now v (X.getD i mk0).t=false→r=false):=Lib.hid (fun h0 h=>HO.out (fun hk=>by rw [hk.2.2 (by rw [HL.out];exact h0)] at h;cases h))
      have HA1:Hid (mkB g c now seq (X.getD i mk0)=true→(0<i→spB (X.getD (i - 1) mk0) (X.getD i mk0)=true)→(0<i∨1=1→liveB now v (X.getD i mk0).t=true)→∀ j,j<i+1→pkB g v c now seq X j):=Lib.hid (fun h1 h2 h3 j hj=>by
        rcases Nat.lt_or_ge j i with x | x
        · exact HG.out j x
        · obtain rfl:j=i:=by omega
          exact ⟨h1,h2,by rw [HL.out];exact h3⟩)
      have HP:Hid (∀ p,i=p+1→mkB g c now seq (X.getD p mk0)=true):=Lib.hid (fun p hp=>(HG.out p (by omega)).1)
      have HQ:Hid (∀ p,i=p+1→X.getD (i - 1) mk0=X.getD p mk0):=Lib.hid (fun p hp=>by rw [hp];rfl)
      generalize X.getD (i - 1) mk0=P0 at HY HA1 HQ
      generalize X.getD i mk0=M at HX HY HZ HA1 d0 d1 d2 d3 d4 d5 d6
      obtain ⟨sq,t,nn,s,qq,lo,hi⟩:=M
      simp only at d0 d1 d2 d3 d4 d5 d6 HZ HA1
      have KM:=Lib.hid (validMark_up g v q c now seq 1 k (some ⟨b,o,none⟩) sq t nn s qq lo hi hg hc hs2)
      have KL:=Lib.hid (isLive13_up g v q c now seq 1 k (some ⟨b,o,none⟩) sq t nn s qq lo hi)
      have f30:(0:Int)≤i:=by omega
      have HSS:Hid (Up w (wr.alloc (.cells #[.int .i64 sq,.int .i64 t,.int .i64 nn,.int .i64 s,.int .i64 qq,.int .i64 lo,.int .i64 hi] 56))∧(wr.alloc (.cells #[.int .i64 sq,.int .i64 t,.int .i64 nn,.int .i64 s,.int .i64 qq,.int .i64 lo,.int .i64 hi] 56)).cell? ⟨w.heap.size,0,none⟩=some (.int .i64 g)∧(wr.alloc (.cells #[.int .i64 sq,.int .i64 t,.int .i64 nn,.int .i64 s,.int .i64 qq,.int .i64 lo,.int .i64 hi] 56)).cell? ⟨w.heap.size,1,none⟩=some (.int .i64 v)∧(wr.alloc (.cells #[.int .i64 sq,.int .i64 t,.int .i64 nn,.int .i64 s,.int .i64 qq,.int .i64 lo,.int .i64 hi] 56)).cell? ⟨w.heap.size,2,none⟩=some (.int .i64 q)∧(wr.alloc (.cells #[.int .i64 sq,.int .i64 t,.int .i64 nn,.int .i64 s,.int .i64 qq,.int .i64 lo,.int .i64 hi] 56)).cell? ⟨w.heap.size,3,none⟩=some (.int .i64 c)∧(wr.alloc (.cells #[.int .i64 sq,.int .i64 t,.int .i64 nn,.int .i64 s,.int .i64 qq,.int .i64 lo,.int .i64 hi] 56)).cell? ⟨w.heap.size,4,none⟩=some (.int .i64 now)∧(wr.alloc (.cells #[.int .i64 sq,.int .i64 t,.int .i64 nn,.int .i64 s,.int .i64 qq,.int .i64 lo,.int .i64 hi] 56)).cell? ⟨w.heap.size,5,none⟩=some (.int .i64 seq)∧(wr.alloc (.cells #[.int .i64 sq,.int .i64 t,.int .i64 nn,.int .i64 s,.int .i64 qq,.int .i64 lo,.int .i64 hi] 56)).cell? ⟨w.heap.size,6,none⟩=some (.slice (some ⟨b,o,none⟩) 1 k)∧(wr.alloc (.cells #[.int .i64 sq,.int .i64 t,.int .i64 nn,.int .i64 s,.int .i64 qq,.int .i64 lo,.int .i64 hi] 56)).cell? ⟨wr.heap.size,0,none⟩=some (.int .i64 sq)∧(wr.alloc (.cells #[.int .i64 sq,.int .i64 t,.int .i64 nn,.int .i64 s,.int .i64 qq,.int .i64 lo,.int .i64 hi] 56)).cell? ⟨wr.heap.size,1,none⟩=some (.int .i64 t)∧(wr.alloc (.cells #[.int .i64 sq,.int .i64 t,.int .i64 nn,.int .i64 s,.int .i64 qq,.int .i64 lo,.int .i64 hi] 56)).cell? ⟨wr.heap.size,2,none⟩=some (.int .i64 nn)∧(wr.alloc (.cells #[.int .i64 sq,.int .i64 t,.int .i64 nn,.int .i64 s,.int .i64 qq,.int .i64 lo,.int .i64 hi] 56)).cell? ⟨wr.heap.size,3,none⟩=some (.int .i64 s)∧(wr.alloc (.cells #[.int .i64 sq,.int .i64 t,.int .i64 nn,.int .i64 s,.int .i64 qq,.int .i64 lo,.int .i64 hi] 56)).cell? ⟨wr.heap.size,4,none⟩=some (.int .i64 qq)∧(wr.alloc (.cells #[.int .i64 sq,.int .i64 t,.int .i64 nn,.int .i64 s,.int .i64 qq,.int .i64 lo,.int .i64 hi] 56)).cell? ⟨wr.heap.size,5,none⟩=some (.int .i64 lo)∧(wr.alloc (.cells #[.int .i64 sq,.int .i64 t,.int .i64 nn,.int .i64 s,.int .i64 qq,.int .i64 lo,.int .i64 hi] 56)).cell? ⟨wr.heap.size,6,none⟩=some (.int .i64 hi)):=by
        have h:=(Up.refl wr).alloc #[.int .i64 sq,.int .i64 t,.int .i64 nn,.int .i64 s,.int .i64 qq,.int .i64 lo,.int .i64 hi] 56
        exact Lib.hid ⟨u7.trans h,h.keep _ _ _ f0,h.keep _ _ _ f1,h.keep _ _ _ f2,h.keep _ _ _ f3,h.keep _ _ _ f4,h.keep _ _ _ f5,h.keep _ _ _ f6,by simp [go_sem],by simp [go_sem],by simp [go_sem],by simp [go_sem],by simp [go_sem],by simp [go_sem],by simp [go_sem]⟩
      clear HO HG u7 f0 f1 f2 f3 f4 f5 f6
      cases hk:mkB g c now seq ⟨sq,t,nn,s,qq,lo,hi⟩ with
      | false =>
        obtain rfl:r=false:=HX.out hk
        rw [hk] at KM
        clear hk HX HY HZ HA1 HP HQ HB HB2 HT HSr
        go_wp2_with fail
        refine wp_region_held_drew (S:=fun w'=>Up w w'∧w'.cell? ⟨w.heap.size,0,none⟩=some (.int .i64 g)∧w'.cell? ⟨w.heap.size,1,none⟩=some (.int .i64 v)∧w'.cell? ⟨w.heap.size,2,none⟩=some (.int .i64 q)∧w'.cell? ⟨w.heap.size,3,none⟩=some (.int .i64 c)∧w'.cell? ⟨w.heap.size,4,none⟩=some (.int .i64 now)∧w'.cell? ⟨w.heap.size,5,none⟩=some (.int .i64 seq)∧w'.cell? ⟨w.heap.size,6,none⟩=some (.slice (some ⟨b,o,none⟩) 1 k)∧w'.cell? ⟨wr.heap.size,0,none⟩=some (.int .i64 sq)∧w'.cell? ⟨wr.heap.size,1,none⟩=some (.int .i64 t)∧w'.cell? ⟨wr.heap.size,2,none⟩=some (.int .i64 nn)∧w'.cell? ⟨wr.heap.size,3,none⟩=some (.int .i64 s)∧w'.cell? ⟨wr.heap.size,4,none⟩=some (.int .i64 qq)∧w'.cell? ⟨wr.heap.size,5,none⟩=some (.int .i64 lo)∧w'.cell? ⟨wr.heap.size,6,none⟩=some (.int .i64 hi)) (by kernel_rfl) ?hB1 (fun hHeld=>?_)
        case hB1=>(first | (with_reducible assumption) | (with_reducible exact keepK14 (Lib.hid (Up.refl _).drew) HSS.out) | (with_reducible exact HX2.out))
        refine takeT 0 rfl (by assumption) ?_
        (try simp only [Act.put,stpA,stpB,stpC])
        refine takeT 1 rfl (by assumption) ?_
        (try simp only [Act.put,stpA,stpB,stpC])
        refine wpAnyH_ready (rs:=[2]) (by kernel_rfl) (by simp) ?_
        refine AllReadyH.cons (o:=⟨_,_,_,_,_,_⟩) rfl (fun K hK=>?_) AllReadyH.nil
        go_simp
        (go_at_call 101;(with_reducible refine (KM.out _).mono ?_);rintro e w2 ⟨rfl,hu⟩;have HU2:=Lib.hid hu;have HX2:=Lib.hid (keepK14 HU2 hHeld);clear hu)
        (try go_wp2_with fail)
        refine hK.out _ _ ?hB4 (fun hHeld=>?_)
        case hB4=>(first | (with_reducible assumption) | (with_reducible exact keepK14 (Lib.hid (Up.refl _).drew) HSS.out) | (with_reducible exact HX2.out))
        clear hK K
        (try simp only [Act.put,stpA,stpB,stpC])
        refine takeT 3 rfl (by assumption) ?_
        (try simp only [Act.put,stpA,stpB,stpC])
        refine takeT 4 rfl (by assumption) ?_
        (try simp only [Act.put,stpA,stpB,stpC])
        refine takeU 5 rfl (by assumption) ?_
        (try simp only [Act.put,stpA,stpB,stpC])
        refine takeU 6 rfl (by assumption) ?_
        (try simp only [Act.put,stpA,stpB,stpC])
        refine takeU 7 rfl (by assumption) ?_
        (try simp only [Act.put,stpA,stpB,stpC])
        refine takeU 8 rfl (by assumption) ?_
        (try simp only [Act.put,stpA,stpB,stpC])
        refine takeU 9 rfl (by assumption) ?_
        (try simp only [Act.put,stpA,stpB,stpC])
        refine takeU 10 rfl (by assumption) ?_
        (try simp only [Act.put,stpA,stpB,stpC])
        refine takeU 11 rfl (by assumption) ?_
        (try simp only [Act.put,stpA,stpB,stpC])
        refine takeU 12 rfl (by assumption) ?_
        (try simp only [Act.put,stpA,stpB,stpC])
        refine takeU 13 rfl (by assumption) ?_
        (try simp only [Act.put,stpA,stpB,stpC])
        refine takeU 14 rfl (by assumption) ?_
        (try simp only [Act.put,stpA,stpB,stpC])
        refine takeU 15 rfl (by assumption) ?_
        (try simp only [Act.put,stpA,stpB,stpC])
        refine takeU 16 rfl (by assumption) ?_
        (try simp only [Act.put,stpA,stpB,stpC])
        refine takeU 17 rfl (by assumption) ?_
        (try simp only [Act.put,stpA,stpB,stpC])
        refine takeT 18 rfl (by assumption) ?_
        (try simp only [Act.put,stpA,stpB,stpC])
        refine wpAnyH_done (by kernel_rfl) ?_ _
        go_wp2_with fail
        go_ret
        exact ⟨rfl,HX2.out.1⟩
      | true =>
      rw [hk] at KM
      have HBM:=Lib.hid (mkB_bd hk hc.2 hs2.2)
      have HNM:Hid (nn=seq - sq+1):=Lib.hid (of_decide_eq_true hk).2.2.1
      have HA1:=Lib.hid (HA1.out hk)
      clear hk HX
      · obtain rfl:i=0:=by omega
        have HA1:=Lib.hid (HA1.out (fun h=>absurd h (by omega)))
        simp only [Nat.zero_mul,Nat.add_zero] at d0 d1 d2 d3 d4 d5 d6
        have e0z:((0:Nat):Int)=0:=rfl
        rw [e0z] at f30
        rw [e0z]
        clear e0z
        go_wp2_with fail
        refine wp_region_held_drew (S:=fun w'=>Up w w'∧w'.cell? ⟨w.heap.size,0,none⟩=some (.int .i64 g)∧w'.cell? ⟨w.heap.size,1,none⟩=some (.int .i64 v)∧w'.cell? ⟨w.heap.size,2,none⟩=some (.int .i64 q)∧w'.cell? ⟨w.heap.size,3,none⟩=some (.int .i64 c)∧w'.cell? ⟨w.heap.size,4,none⟩=some (.int .i64 now)∧w'.cell? ⟨w.heap.size,5,none⟩=some (.int .i64 seq)∧w'.cell? ⟨w.heap.size,6,none⟩=some (.slice (some ⟨b,o,none⟩) 1 k)∧w'.cell? ⟨wr.heap.size,0,none⟩=some (.int .i64 sq)∧w'.cell? ⟨wr.heap.size,1,none⟩=some (.int .i64 t)∧w'.cell? ⟨wr.heap.size,2,none⟩=some (.int .i64 nn)∧w'.cell? ⟨wr.heap.size,3,none⟩=some (.int .i64 s)∧w'.cell? ⟨wr.heap.size,4,none⟩=some (.int .i64 qq)∧w'.cell? ⟨wr.heap.size,5,none⟩=some (.int .i64 lo)∧w'.cell? ⟨wr.heap.size,6,none⟩=some (.int .i64 hi)) (by kernel_rfl) ?hB8 (fun hHeld=>?_)
        case hB8=>(first | (with_reducible assumption) | (with_reducible exact keepK14 (Lib.hid (Up.refl _).drew) HSS.out) | (with_reducible exact HX2.out))
        refine takeT 0 rfl (by assumption) ?_
        (try simp only [Act.put,stpA,stpB,stpC])
        refine takeT 1 rfl (by assumption) ?_
        (try simp only [Act.put,stpA,stpB,stpC])
        refine wpAnyH_ready (rs:=[2]) (by kernel_rfl) (by simp) ?_
        refine AllReadyH.cons (o:=⟨_,_,_,_,_,_⟩) rfl (fun K hK=>?_) AllReadyH.nil
        go_simp
        (go_at_call 101;(with_reducible refine (KM.out _).mono ?_);rintro e w2 ⟨rfl,hu⟩;have HU2:=Lib.hid hu;have HX2:=Lib.hid (keepK14 HU2 hHeld);clear hu)
        (try go_wp2_with fail)
        refine hK.out _ _ ?hB11 (fun hHeld=>?_)
        case hB11=>(first | (with_reducible assumption) | (with_reducible exact keepK14 (Lib.hid (Up.refl _).drew) HSS.out) | (with_reducible exact HX2.out))
        clear hK K
        (try simp only [Act.put,stpA,stpB,stpC])
        refine takeT 3 rfl (by assumption) ?_
        (try simp only [Act.put,stpA,stpB,stpC])
        refine takeT 4 rfl (by assumption) ?_
        (try simp only [Act.put,stpA,stpB,stpC])
        refine takeT 5 rfl (by assumption) ?_
        (try simp only [Act.put,stpA,stpB,stpC])
        refine takeT 6 rfl (by assumption) ?_
        (try simp only [Act.put,stpA,stpB,stpC])
        refine takeT 7 rfl (by assumption) ?_
        (try simp only [Act.put,stpA,stpB,stpC])
        refine takeU 8 rfl (by assumption) ?_
        (try simp only [Act.put,stpA,stpB,stpC])
        refine takeU 9 rfl (by assumption) ?_
        (try simp only [Act.put,stpA,stpB,stpC])
        refine takeU 10 rfl (by assumption) ?_
        (try simp only [Act.put,stpA,stpB,stpC])
        refine takeU 11 rfl (by assumption) ?_
        (try simp only [Act.put,stpA,stpB,stpC])
        refine takeU 12 rfl (by assumption) ?_
        (try simp only [Act.put,stpA,stpB,stpC])
        refine takeU 13 rfl (by assumption) ?_
        (try simp only [Act.put,stpA,stpB,stpC])
        refine takeU 14 rfl (by assumption) ?_
        (try simp only [Act.put,stpA,stpB,stpC])
        refine takeU 15 rfl (by assumption) ?_
        (try simp only [Act.put,stpA,stpB,stpC])
        refine takeU 16 rfl (by assumption) ?_
        (try simp only [Act.put,stpA,stpB,stpC])
        refine takeT 17 rfl (by assumption) ?_
        (try simp only [Act.put,stpA,stpB,stpC])
        refine takeT 18 rfl (by assumption) ?_
        (try simp only [Act.put,stpA,stpB,stpC])
        refine wpAnyH_done (by kernel_rfl) ?_ _
        obtain ⟨u7,f0,f1,f2,f3,f4,f5,f6,e0,e1,e2,e3,e4,e5,e6⟩:=HX2.out
        (repeat clear ‹Up w _∧_›)
        cases hl:liveB now v t with
        | false =>
          obtain rfl:r=false:=HZ.out (by simp) hl
          rw [hl] at KL
          clear hl HZ HA1 HP HQ HB HB2 HT HSr HY
          go_wp2_with (go_at_call 65;(with_reducible refine (KL.out _).mono ?_);rintro e w4 ⟨rfl,hu⟩;have HU4:=Lib.hid hu;clear hu)
          go_ret
          exact ⟨rfl,u7.trans HU4.out⟩
        | true =>
          have HA2:=Lib.hid (HA1.out (fun _=>hl))
          rw [hl] at KL
          clear hl HZ HA1 HP HQ HB HB2 HT HSr HY
          go_wp2_with (go_at_call 65;(with_reducible refine (KL.out _).mono ?_);rintro e w4 ⟨rfl,hu⟩;have HU4:=Lib.hid hu;clear hu)
          go_roundw
          case rel=>exact ⟨0+1,by go_num,by omega,HA2,Lib.hid ⟨u7.trans HU4.out,HU4.out.keep _ _ _ f0,HU4.out.keep _ _ _ f1,HU4.out.keep _ _ _ f2,HU4.out.keep _ _ _ f3,HU4.out.keep _ _ _ f4,HU4.out.keep _ _ _ f5,HU4.out.keep _ _ _ f6⟩⟩
          case measure=>simp [intOf]
    · obtain rfl:i=1:=by omega
      have HSr:=Lib.hid (HS.out.up u7)
      obtain ⟨b,o,rfl,d0,d1,d2,d3,d4,d5,d6⟩:=mrk_at HSr.out mk0 (Nat.lt_succ_self 0)
      have HB2:=Lib.hid (HB2.out (Nat.succ_pos 0))
      have HT:=Lib.hid (HT.out HG.out)
      have HBM:=Lib.hid (mkB_bd (HG.out 0 (Nat.lt_succ_self 0)).1 hc.2 hs2.2)
      rw [HL.out] at HB2 HT
      have HB2:Hid (laB seq (X.getD 0 mk0)=false→r=false):=HB2
      have HT:Hid ((0<1→laB seq (X.getD 0 mk0)=true)→r=true):=HT
      generalize X.getD 0 mk0=M at *
      obtain ⟨sq,t,nn,s,qq,lo,hi⟩:=M
      simp only [Nat.zero_mul,Nat.add_zero] at d0 d1 d2 d3 d4 d5 d6
      have KA:=Lib.hid (isLast_up g v q c now seq 1 k (some ⟨b,o,none⟩) sq t nn s qq lo hi HBM.out.2.1.1 HBM.out.2.1.2)
      have HSS:Hid (Up w wr∧wr.cell? ⟨w.heap.size,0,none⟩=some (.int .i64 g)∧wr.cell? ⟨w.heap.size,1,none⟩=some (.int .i64 v)∧wr.cell? ⟨w.heap.size,2,none⟩=some (.int .i64 q)∧wr.cell? ⟨w.heap.size,3,none⟩=some (.int .i64 c)∧wr.cell? ⟨w.heap.size,4,none⟩=some (.int .i64 now)∧wr.cell? ⟨w.heap.size,5,none⟩=some (.int .i64 seq)∧wr.cell? ⟨w.heap.size,6,none⟩=some (.slice (some ⟨b,o,none⟩) 1 k)∧wr.cell? ⟨b,o,none⟩=some (.int .i64 sq)∧wr.cell? ⟨b,o+1,none⟩=some (.int .i64 t)∧wr.cell? ⟨b,o+2,none⟩=some (.int .i64 nn)∧wr.cell? ⟨b,o+3,none⟩=some (.int .i64 s)∧wr.cell? ⟨b,o+4,none⟩=some (.int .i64 qq)∧wr.cell? ⟨b,o+5,none⟩=some (.int .i64 lo)∧wr.cell? ⟨b,o+6,none⟩=some (.int .i64 hi)):=Lib.hid ⟨u7,f0,f1,f2,f3,f4,f5,f6,d0,d1,d2,d3,d4,d5,d6⟩
      have HR:r=laB seq ⟨sq,t,nn,s,qq,lo,hi⟩:=by
        cases hx:laB seq ⟨sq,t,nn,s,qq,lo,hi⟩ with
        | false=>exact HB2.out hx
        | true=>exact HT.out (fun _=>hx)
      rw [← HR] at KA
      clear HR
      clear HB HB2 HT HG HSr HBM d0 d1 d2 d3 d4 d5 d6 u7 f0 f1 f2 f3 f4 f5 f6
      have z5:IntKind.i64.wrap 0=0:=by rw [IntKind.wrap_i64];rfl
      go_wp2_with fail
      refine wp_region_held_drew (S:=fun w'=>Up w w'∧w'.cell? ⟨w.heap.size,0,none⟩=some (.int .i64 g)∧w'.cell? ⟨w.heap.size,1,none⟩=some (.int .i64 v)∧w'.cell? ⟨w.heap.size,2,none⟩=some (.int .i64 q)∧w'.cell? ⟨w.heap.size,3,none⟩=some (.int .i64 c)∧w'.cell? ⟨w.heap.size,4,none⟩=some (.int .i64 now)∧w'.cell? ⟨w.heap.size,5,none⟩=some (.int .i64 seq)∧w'.cell? ⟨w.heap.size,6,none⟩=some (.slice (some ⟨b,o,none⟩) 1 k)∧w'.cell? ⟨b,o,none⟩=some (.int .i64 sq)∧w'.cell? ⟨b,o+1,none⟩=some (.int .i64 t)∧w'.cell? ⟨b,o+2,none⟩=some (.int .i64 nn)∧w'.cell? ⟨b,o+3,none⟩=some (.int .i64 s)∧w'.cell? ⟨b,o+4,none⟩=some (.int .i64 qq)∧w'.cell? ⟨b,o+5,none⟩=some (.int .i64 lo)∧w'.cell? ⟨b,o+6,none⟩=some (.int .i64 hi)) (by kernel_rfl) ?hB96 (fun hHeld=>?_)
      case hB96=>(first | (with_reducible assumption) | (with_reducible exact keepK14 (Lib.hid (Up.refl _).drew) HSS.out) | (with_reducible exact HX2.out))
      refine takeT 0 rfl (by assumption) ?_
      (try simp only [Act.put,stpA,stpB,stpC])
      refine takeT 1 rfl (by assumption) ?_
      (try simp only [Act.put,stpA,stpB,stpC])
      refine takeT 2 rfl (by assumption) ?_
      (try simp only [Act.put,stpA,stpB,stpC])
      refine takeT 3 rfl (by assumption) ?_
      (try simp only [Act.put,stpA,stpB,stpC])
      refine takeT 4 rfl (by assumption) ?_
      (try simp only [Act.put,stpA,stpB,stpC])
      refine takeT 5 rfl (by assumption) ?_
      (try simp only [Act.put,stpA,stpB,stpC])
      refine takeT 6 rfl (by assumption) ?_
      (try simp only [Act.put,stpA,stpB,stpC])
      refine takeT 7 rfl (by assumption) ?_
      (try simp only [Act.put,stpA,stpB,stpC])
      refine takeT 8 rfl (by assumption) ?_
      (try simp only [Act.put,stpA,stpB,stpC])
      refine takeT 9 rfl (by assumption) ?_
      (try simp only [Act.put,stpA,stpB,stpC])
      refine takeT 10 rfl (by assumption) ?_
      (try simp only [Act.put,stpA,stpB,stpC])
      refine takeT 11 rfl (by assumption) ?_
      (try simp only [Act.put,stpA,stpB,stpC])
      refine takeT 12 rfl (by assumption) ?_
      (try simp only [Act.put,stpA,stpB,stpC])
      refine takeT 13 rfl (by assumption) ?_
      (try simp only [Act.put,stpA,stpB,stpC])
      refine wpAnyH_ready (rs:=[14]) (by kernel_rfl) (by simp) ?_
      refine AllReadyH.cons (o:=⟨_,_,_,_,_,_⟩) rfl (fun K hK=>?_) AllReadyH.nil
      go_simp
      (go_at_call 103;(with_reducible refine (KA.out _).mono ?_);rintro e w2 ⟨rfl,hu⟩;have HU2:=Lib.hid hu;have HX2:=Lib.hid (keepK14 HU2 hHeld);clear hu)
      (try go_wp2_with fail)
      refine hK.out _ _ ?hB111 (fun hHeld=>?_)
      case hB111=>(first | (with_reducible assumption) | (with_reducible exact keepK14 (Lib.hid (Up.refl _).drew) HSS.out) | (with_reducible exact HX2.out))
      clear hK K
      (try simp only [Act.put,stpA,stpB,stpC])
      refine takeT 15 rfl (by assumption) ?_
      (try simp only [Act.put,stpA,stpB,stpC])
      refine takeT 16 rfl (by assumption) ?_
      (try simp only [Act.put,stpA,stpB,stpC])
      refine wpAnyH_done (by kernel_rfl) ?_ _
      go_wp2_with fail
      go_ret
      exact ⟨rfl,HX2.out.1⟩

set_option maxHeartbeats 4000000 in
set_option maxRecDepth 100000 in
theorem validMarks_up (g v q c now seq:Int) (n k:Nat) (A:Option Addr) (X:List Mrk) (hm:mayM g v q c now=true) (hs:sqB seq=true) (hn:n≤50000) (w:World) (hS:SG cM w A n X) :
    Calls Tryz.prog 81 #[.agg #[.int .i64 g,.int .i64 v,.int .i64 q,.int .i64 c,.int .i64 now,.int .i64 seq,.slice A n k]] w fun e w'=>e=.returned (.bool (mrkB g v c now seq X))∧Up w w':=by
  by_cases hn1:n=1
  · subst hn1
    exact validMarks_one g v q c now seq k A X hm hs hn w hS
  have HN1:Hid (¬ n=1):=Lib.hid hn1
  have t3:((n:Int) == 1)=false:=beq_eq_false_iff_ne.2 (by omega)
  clear hn1
  have HL:=Lib.hid hS.1
  have HS:=Lib.hid hS
  obtain ⟨hg,hm2⟩:=mayM_true hm
  obtain ⟨g1,g2,hc,g4⟩:=mayC_facts hm2
  have hs2:=sqB_true hs
  have HB:=Lib.hid (fun j (hj:j<n) (h:¬ pkB g v c now seq X j)=>mrkB_nopk (X:=X) hm (by rw [HL.out];exact hj) h)
  have HB2:=Lib.hid (fun (hj:0<n)=>mrkB_nola (v:=v) (q:=q) (X:=X) (seq:=seq) (c:=c) hm (by rw [HL.out];exact hj))
  have HT:=Lib.hid (fun (h1:∀ j,j<n→pkB g v c now seq X j) h2=>mrkB_pk (X:=X) hm hs (by rw [HL.out];exact h1) h2)
  generalize mrkB g v c now seq X=r at *
  clear hS hm hm2 g1 g2 g4 hs
  go_enter Tryz.func81,Tryz.ntmps81
  go_wp2_with fail
  go_loopw [8] (fun t wr=>∃ i:Nat,t=.int .i64 i∧i≤n∧Hid (∀ j,j<i→pkB g v c now seq X j)∧Hid (Up w wr∧wr.cell? ⟨w.heap.size,0,none⟩=some (.int .i64 g)∧wr.cell? ⟨w.heap.size,1,none⟩=some (.int .i64 v)∧wr.cell? ⟨w.heap.size,2,none⟩=some (.int .i64 q)∧wr.cell? ⟨w.heap.size,3,none⟩=some (.int .i64 c)∧wr.cell? ⟨w.heap.size,4,none⟩=some (.int .i64 now)∧wr.cell? ⟨w.heap.size,5,none⟩=some (.int .i64 seq)∧wr.cell? ⟨w.heap.size,6,none⟩=some (.slice A n k))) (fun t _=>n - (intOf t).toNat)
  case atStart=>exact ⟨0,rfl,Nat.zero_le _,Lib.hid (fun j hj=>absurd hj (Nat.not_lt_zero _)),Lib.hid ⟨(Up.refl w).alloc _ _,by simp [go_sem],by simp [go_sem],by simp [go_sem],by simp [go_sem],by simp [go_sem],by simp [go_sem],by simp [go_sem]⟩⟩
  case round =>
    obtain ⟨i,rfl,hin,HG,HW⟩:=hrel
    obtain ⟨u7,f0,f1,f2,f3,f4,f5,f6⟩:=HW.out
    have HUw:=Lib.hid u7
    have hlt:w.heap.size<wr.heap.size:=World.block_lt_of_cell? _ _ f0
    by_cases hi':i<n
    · have HSr:=Lib.hid (HS.out.up u7)
      obtain ⟨b,o,rfl,d0,d1,d2,d3,d4,d5,d6⟩:=mrk_at HSr.out mk0 hi'
      have HO:=Lib.hid (HB.out i hi')
      have HX:Hid (mkB g c now seq (X.getD i mk0)=false→r=false):=Lib.hid (fun h=>HO.out (fun hk=>by rw [hk.1] at h;cases h))
      have HY:Hid (0<i→spB (X.getD (i - 1) mk0) (X.getD i mk0)=false→r=false):=Lib.hid (fun h0 h=>HO.out (fun hk=>by rw [hk.2.1 h0] at h;cases h))
      have HZ:Hid ((0<i∨n=1)→liveB now v (X.getD i mk0).t=false→r=false):=Lib.hid (fun h0 h=>HO.out (fun hk=>by rw [hk.2.2 (by rw [HL.out];exact h0)] at h;cases h))
      have HA1:Hid (mkB g c now seq (X.getD i mk0)=true→(0<i→spB (X.getD (i - 1) mk0) (X.getD i mk0)=true)→(0<i∨n=1→liveB now v (X.getD i mk0).t=true)→∀ j,j<i+1→pkB g v c now seq X j):=Lib.hid (fun h1 h2 h3 j hj=>by
        rcases Nat.lt_or_ge j i with x | x
        · exact HG.out j x
        · obtain rfl:j=i:=by omega
          exact ⟨h1,h2,by rw [HL.out];exact h3⟩)
      have HP:Hid (∀ p,i=p+1→mkB g c now seq (X.getD p mk0)=true):=Lib.hid (fun p hp=>(HG.out p (by omega)).1)
      have HQ:Hid (∀ p,i=p+1→X.getD (i - 1) mk0=X.getD p mk0):=Lib.hid (fun p hp=>by rw [hp];rfl)
      generalize X.getD (i - 1) mk0=P0 at HY HA1 HQ
      generalize X.getD i mk0=M at HX HY HZ HA1 d0 d1 d2 d3 d4 d5 d6
      obtain ⟨sq,t,nn,s,qq,lo,hi⟩:=M
      simp only at d0 d1 d2 d3 d4 d5 d6 HZ HA1
      have KM:=Lib.hid (validMark_up g v q c now seq n k (some ⟨b,o,none⟩) sq t nn s qq lo hi hg hc hs2)
      have KL:=Lib.hid (isLive13_up g v q c now seq n k (some ⟨b,o,none⟩) sq t nn s qq lo hi)
      have f20:(i:Int)<n:=by omega
      have f30:(0:Int)≤i:=by omega
      have HSS:Hid (Up w (wr.alloc (.cells #[.int .i64 sq,.int .i64 t,.int .i64 nn,.int .i64 s,.int .i64 qq,.int .i64 lo,.int .i64 hi] 56))∧(wr.alloc (.cells #[.int .i64 sq,.int .i64 t,.int .i64 nn,.int .i64 s,.int .i64 qq,.int .i64 lo,.int .i64 hi] 56)).cell? ⟨w.heap.size,0,none⟩=some (.int .i64 g)∧(wr.alloc (.cells #[.int .i64 sq,.int .i64 t,.int .i64 nn,.int .i64 s,.int .i64 qq,.int .i64 lo,.int .i64 hi] 56)).cell? ⟨w.heap.size,1,none⟩=some (.int .i64 v)∧(wr.alloc (.cells #[.int .i64 sq,.int .i64 t,.int .i64 nn,.int .i64 s,.int .i64 qq,.int .i64 lo,.int .i64 hi] 56)).cell? ⟨w.heap.size,2,none⟩=some (.int .i64 q)∧(wr.alloc (.cells #[.int .i64 sq,.int .i64 t,.int .i64 nn,.int .i64 s,.int .i64 qq,.int .i64 lo,.int .i64 hi] 56)).cell? ⟨w.heap.size,3,none⟩=some (.int .i64 c)∧(wr.alloc (.cells #[.int .i64 sq,.int .i64 t,.int .i64 nn,.int .i64 s,.int .i64 qq,.int .i64 lo,.int .i64 hi] 56)).cell? ⟨w.heap.size,4,none⟩=some (.int .i64 now)∧(wr.alloc (.cells #[.int .i64 sq,.int .i64 t,.int .i64 nn,.int .i64 s,.int .i64 qq,.int .i64 lo,.int .i64 hi] 56)).cell? ⟨w.heap.size,5,none⟩=some (.int .i64 seq)∧(wr.alloc (.cells #[.int .i64 sq,.int .i64 t,.int .i64 nn,.int .i64 s,.int .i64 qq,.int .i64 lo,.int .i64 hi] 56)).cell? ⟨w.heap.size,6,none⟩=some (.slice (some ⟨b,o,none⟩) n k)∧(wr.alloc (.cells #[.int .i64 sq,.int .i64 t,.int .i64 nn,.int .i64 s,.int .i64 qq,.int .i64 lo,.int .i64 hi] 56)).cell? ⟨wr.heap.size,0,none⟩=some (.int .i64 sq)∧(wr.alloc (.cells #[.int .i64 sq,.int .i64 t,.int .i64 nn,.int .i64 s,.int .i64 qq,.int .i64 lo,.int .i64 hi] 56)).cell? ⟨wr.heap.size,1,none⟩=some (.int .i64 t)∧(wr.alloc (.cells #[.int .i64 sq,.int .i64 t,.int .i64 nn,.int .i64 s,.int .i64 qq,.int .i64 lo,.int .i64 hi] 56)).cell? ⟨wr.heap.size,2,none⟩=some (.int .i64 nn)∧(wr.alloc (.cells #[.int .i64 sq,.int .i64 t,.int .i64 nn,.int .i64 s,.int .i64 qq,.int .i64 lo,.int .i64 hi] 56)).cell? ⟨wr.heap.size,3,none⟩=some (.int .i64 s)∧(wr.alloc (.cells #[.int .i64 sq,.int .i64 t,.int .i64 nn,.int .i64 s,.int .i64 qq,.int .i64 lo,.int .i64 hi] 56)).cell? ⟨wr.heap.size,4,none⟩=some (.int .i64 qq)∧(wr.alloc (.cells #[.int .i64 sq,.int .i64 t,.int .i64 nn,.int .i64 s,.int .i64 qq,.int .i64 lo,.int .i64 hi] 56)).cell? ⟨wr.heap.size,5,none⟩=some (.int .i64 lo)∧(wr.alloc (.cells #[.int .i64 sq,.int .i64 t,.int .i64 nn,.int .i64 s,.int .i64 qq,.int .i64 lo,.int .i64 hi] 56)).cell? ⟨wr.heap.size,6,none⟩=some (.int .i64 hi)):=by
        have h:=(Up.refl wr).alloc #[.int .i64 sq,.int .i64 t,.int .i64 nn,.int .i64 s,.int .i64 qq,.int .i64 lo,.int .i64 hi] 56
        exact Lib.hid ⟨u7.trans h,h.keep _ _ _ f0,h.keep _ _ _ f1,h.keep _ _ _ f2,h.keep _ _ _ f3,h.keep _ _ _ f4,h.keep _ _ _ f5,h.keep _ _ _ f6,by simp [go_sem],by simp [go_sem],by simp [go_sem],by simp [go_sem],by simp [go_sem],by simp [go_sem],by simp [go_sem]⟩
      clear HO HG u7 f0 f1 f2 f3 f4 f5 f6
      cases hk:mkB g c now seq ⟨sq,t,nn,s,qq,lo,hi⟩ with
      | false =>
        obtain rfl:r=false:=HX.out hk
        rw [hk] at KM
        clear hk HX HY HZ HA1 HP HQ HB HB2 HT HSr
        go_wp2_with fail
        refine wp_region_held_drew (S:=fun w'=>Up w w'∧w'.cell? ⟨w.heap.size,0,none⟩=some (.int .i64 g)∧w'.cell? ⟨w.heap.size,1,none⟩=some (.int .i64 v)∧w'.cell? ⟨w.heap.size,2,none⟩=some (.int .i64 q)∧w'.cell? ⟨w.heap.size,3,none⟩=some (.int .i64 c)∧w'.cell? ⟨w.heap.size,4,none⟩=some (.int .i64 now)∧w'.cell? ⟨w.heap.size,5,none⟩=some (.int .i64 seq)∧w'.cell? ⟨w.heap.size,6,none⟩=some (.slice (some ⟨b,o,none⟩) n k)∧w'.cell? ⟨wr.heap.size,0,none⟩=some (.int .i64 sq)∧w'.cell? ⟨wr.heap.size,1,none⟩=some (.int .i64 t)∧w'.cell? ⟨wr.heap.size,2,none⟩=some (.int .i64 nn)∧w'.cell? ⟨wr.heap.size,3,none⟩=some (.int .i64 s)∧w'.cell? ⟨wr.heap.size,4,none⟩=some (.int .i64 qq)∧w'.cell? ⟨wr.heap.size,5,none⟩=some (.int .i64 lo)∧w'.cell? ⟨wr.heap.size,6,none⟩=some (.int .i64 hi)) (by kernel_rfl) ?hB1 (fun hHeld=>?_)
        case hB1=>(first | (with_reducible assumption) | (with_reducible exact keepK14 (Lib.hid (Up.refl _).drew) HSS.out) | (with_reducible exact HX2.out))
        refine takeT 0 rfl (by assumption) ?_
        (try simp only [Act.put,stpA,stpB,stpC])
        refine takeT 1 rfl (by assumption) ?_
        (try simp only [Act.put,stpA,stpB,stpC])
        refine wpAnyH_ready (rs:=[2]) (by kernel_rfl) (by simp) ?_
        refine AllReadyH.cons (o:=⟨_,_,_,_,_,_⟩) rfl (fun K hK=>?_) AllReadyH.nil
        go_simp
        (go_at_call 101;(with_reducible refine (KM.out _).mono ?_);rintro e w2 ⟨rfl,hu⟩;have HU2:=Lib.hid hu;have HX2:=Lib.hid (keepK14 HU2 hHeld);clear hu)
        (try go_wp2_with fail)
        refine hK.out _ _ ?hB4 (fun hHeld=>?_)
        case hB4=>(first | (with_reducible assumption) | (with_reducible exact keepK14 (Lib.hid (Up.refl _).drew) HSS.out) | (with_reducible exact HX2.out))
        clear hK K
        (try simp only [Act.put,stpA,stpB,stpC])
        refine takeT 3 rfl (by assumption) ?_
        (try simp only [Act.put,stpA,stpB,stpC])
        refine takeT 4 rfl (by assumption) ?_
        (try simp only [Act.put,stpA,stpB,stpC])
        refine takeU 5 rfl (by assumption) ?_
        (try simp only [Act.put,stpA,stpB,stpC])
        refine takeU 6 rfl (by assumption) ?_
        (try simp only [Act.put,stpA,stpB,stpC])
        refine takeU 7 rfl (by assumption) ?_
        (try simp only [Act.put,stpA,stpB,stpC])
        refine takeU 8 rfl (by assumption) ?_
        (try simp only [Act.put,stpA,stpB,stpC])
        refine takeU 9 rfl (by assumption) ?_
        (try simp only [Act.put,stpA,stpB,stpC])
        refine takeU 10 rfl (by assumption) ?_
        (try simp only [Act.put,stpA,stpB,stpC])
        refine takeU 11 rfl (by assumption) ?_
        (try simp only [Act.put,stpA,stpB,stpC])
        refine takeU 12 rfl (by assumption) ?_
        (try simp only [Act.put,stpA,stpB,stpC])
        refine takeU 13 rfl (by assumption) ?_
        (try simp only [Act.put,stpA,stpB,stpC])
        refine takeU 14 rfl (by assumption) ?_
        (try simp only [Act.put,stpA,stpB,stpC])
        refine takeU 15 rfl (by assumption) ?_
        (try simp only [Act.put,stpA,stpB,stpC])
        refine takeU 16 rfl (by assumption) ?_
        (try simp only [Act.put,stpA,stpB,stpC])
        refine takeU 17 rfl (by assumption) ?_
        (try simp only [Act.put,stpA,stpB,stpC])
        refine takeT 18 rfl (by assumption) ?_
        (try simp only [Act.put,stpA,stpB,stpC])
        refine wpAnyH_done (by kernel_rfl) ?_ _
        go_wp2_with fail
        go_ret
        exact ⟨rfl,HX2.out.1⟩
      | true =>
      rw [hk] at KM
      have HBM:=Lib.hid (mkB_bd hk hc.2 hs2.2)
      have HNM:Hid (nn=seq - sq+1):=Lib.hid (of_decide_eq_true hk).2.2.1
      have HA1:=Lib.hid (HA1.out hk)
      clear hk HX
      by_cases h0:i=0
      · subst h0
        have HA1:=Lib.hid (HA1.out (fun h=>absurd h (by omega)))
        simp only [Nat.zero_mul,Nat.add_zero] at d0 d1 d2 d3 d4 d5 d6
        have e0z:((0:Nat):Int)=0:=rfl
        rw [e0z] at f20 f30
        rw [e0z]
        clear e0z
        go_wp2_with fail
        refine wp_region_held_drew (S:=fun w'=>Up w w'∧w'.cell? ⟨w.heap.size,0,none⟩=some (.int .i64 g)∧w'.cell? ⟨w.heap.size,1,none⟩=some (.int .i64 v)∧w'.cell? ⟨w.heap.size,2,none⟩=some (.int .i64 q)∧w'.cell? ⟨w.heap.size,3,none⟩=some (.int .i64 c)∧w'.cell? ⟨w.heap.size,4,none⟩=some (.int .i64 now)∧w'.cell? ⟨w.heap.size,5,none⟩=some (.int .i64 seq)∧w'.cell? ⟨w.heap.size,6,none⟩=some (.slice (some ⟨b,o,none⟩) n k)∧w'.cell? ⟨wr.heap.size,0,none⟩=some (.int .i64 sq)∧w'.cell? ⟨wr.heap.size,1,none⟩=some (.int .i64 t)∧w'.cell? ⟨wr.heap.size,2,none⟩=some (.int .i64 nn)∧w'.cell? ⟨wr.heap.size,3,none⟩=some (.int .i64 s)∧w'.cell? ⟨wr.heap.size,4,none⟩=some (.int .i64 qq)∧w'.cell? ⟨wr.heap.size,5,none⟩=some (.int .i64 lo)∧w'.cell? ⟨wr.heap.size,6,none⟩=some (.int .i64 hi)) (by kernel_rfl) ?hB19 (fun hHeld=>?_)
        case hB19=>(first | (with_reducible assumption) | (with_reducible exact keepK14 (Lib.hid (Up.refl _).drew) HSS.out) | (with_reducible exact HX2.out))
        refine takeT 0 rfl (by assumption) ?_
        (try simp only [Act.put,stpA,stpB,stpC])
        refine takeT 1 rfl (by assumption) ?_
        (try simp only [Act.put,stpA,stpB,stpC])
        refine wpAnyH_ready (rs:=[2]) (by kernel_rfl) (by simp) ?_
        refine AllReadyH.cons (o:=⟨_,_,_,_,_,_⟩) rfl (fun K hK=>?_) AllReadyH.nil
        go_simp
        (go_at_call 101;(with_reducible refine (KM.out _).mono ?_);rintro e w2 ⟨rfl,hu⟩;have HU2:=Lib.hid hu;have HX2:=Lib.hid (keepK14 HU2 hHeld);clear hu)
        (try go_wp2_with fail)
        refine hK.out _ _ ?hB22 (fun hHeld=>?_)
        case hB22=>(first | (with_reducible assumption) | (with_reducible exact keepK14 (Lib.hid (Up.refl _).drew) HSS.out) | (with_reducible exact HX2.out))
        clear hK K
        (try simp only [Act.put,stpA,stpB,stpC])
        refine takeT 3 rfl (by assumption) ?_
        (try simp only [Act.put,stpA,stpB,stpC])
        refine takeT 4 rfl (by assumption) ?_
        (try simp only [Act.put,stpA,stpB,stpC])
        refine takeT 5 rfl (by assumption) ?_
        (try simp only [Act.put,stpA,stpB,stpC])
        refine takeT 6 rfl (by assumption) ?_
        (try simp only [Act.put,stpA,stpB,stpC])
        refine takeT 7 rfl (by assumption) ?_
        (try simp only [Act.put,stpA,stpB,stpC])
        refine takeU 8 rfl (by assumption) ?_
        (try simp only [Act.put,stpA,stpB,stpC])
        refine takeU 9 rfl (by assumption) ?_
        (try simp only [Act.put,stpA,stpB,stpC])
        refine takeU 10 rfl (by assumption) ?_
        (try simp only [Act.put,stpA,stpB,stpC])
        refine takeU 11 rfl (by assumption) ?_
        (try simp only [Act.put,stpA,stpB,stpC])
        refine takeU 12 rfl (by assumption) ?_
        (try simp only [Act.put,stpA,stpB,stpC])
        refine takeU 13 rfl (by assumption) ?_
        (try simp only [Act.put,stpA,stpB,stpC])
        refine takeU 14 rfl (by assumption) ?_
        (try simp only [Act.put,stpA,stpB,stpC])
        refine takeU 15 rfl (by assumption) ?_
        (try simp only [Act.put,stpA,stpB,stpC])
        refine takeU 16 rfl (by assumption) ?_
        (try simp only [Act.put,stpA,stpB,stpC])
        refine takeT 17 rfl (by assumption) ?_
        (try simp only [Act.put,stpA,stpB,stpC])
        refine takeT 18 rfl (by assumption) ?_
        (try simp only [Act.put,stpA,stpB,stpC])
        refine wpAnyH_done (by kernel_rfl) ?_ _
        obtain ⟨u7,f0,f1,f2,f3,f4,f5,f6,e0,e1,e2,e3,e4,e5,e6⟩:=HX2.out
        (repeat clear ‹Up w _∧_›)
        have HA2:=Lib.hid (HA1.out (fun h=>absurd h (by have:=HN1.out;omega)))
        clear HZ HA1 HP HQ HB HB2 HT HSr HY
        go_wp2_with fail
        go_roundw
        case rel=>exact ⟨0+1,by go_num,by omega,HA2,Lib.hid ⟨u7,f0,f1,f2,f3,f4,f5,f6⟩⟩
        case measure=>simp [intOf];omega
      · obtain ⟨p,rfl⟩:∃ p,i=p+1:=⟨i - 1,by omega⟩
        have ei:((p+1:Nat):Int)=(p:Int)+1:=by omega
        have HQ1:=Lib.hid (HQ.out p rfl)
        have HP1:=Lib.hid (HP.out p rfl)
        have hpn:p<n:=by omega
        obtain ⟨x0,x1,x2,x3,x4,x5,x6⟩:=mrk_prev HSr.out hpn
        rw [← HQ1.out] at HP1 x0 x1 x2 x3 x4 x5 x6
        obtain ⟨sq0,t0,nn0,s0,qq0,lo0,hi0⟩:=P0
        simp only at x0 x1 x2 x3 x4 x5 x6
        have KS:=Lib.hid (validStep_up sq0 t0 nn0 s0 qq0 lo0 hi0 sq t nn s qq lo hi (mkB_bd HP1.out hc.2 hs2.2) HBM.out (fun h=>by have h1:=(of_decide_eq_true HP1.out).2.2.1;have h2:=HNM.out;simp only at h1;omega))
        have HSS:Hid (Up w (wr.alloc (.cells #[.int .i64 sq,.int .i64 t,.int .i64 nn,.int .i64 s,.int .i64 qq,.int .i64 lo,.int .i64 hi] 56))∧(wr.alloc (.cells #[.int .i64 sq,.int .i64 t,.int .i64 nn,.int .i64 s,.int .i64 qq,.int .i64 lo,.int .i64 hi] 56)).cell? ⟨w.heap.size,0,none⟩=some (.int .i64 g)∧(wr.alloc (.cells #[.int .i64 sq,.int .i64 t,.int .i64 nn,.int .i64 s,.int .i64 qq,.int .i64 lo,.int .i64 hi] 56)).cell? ⟨w.heap.size,1,none⟩=some (.int .i64 v)∧(wr.alloc (.cells #[.int .i64 sq,.int .i64 t,.int .i64 nn,.int .i64 s,.int .i64 qq,.int .i64 lo,.int .i64 hi] 56)).cell? ⟨w.heap.size,2,none⟩=some (.int .i64 q)∧(wr.alloc (.cells #[.int .i64 sq,.int .i64 t,.int .i64 nn,.int .i64 s,.int .i64 qq,.int .i64 lo,.int .i64 hi] 56)).cell? ⟨w.heap.size,3,none⟩=some (.int .i64 c)∧(wr.alloc (.cells #[.int .i64 sq,.int .i64 t,.int .i64 nn,.int .i64 s,.int .i64 qq,.int .i64 lo,.int .i64 hi] 56)).cell? ⟨w.heap.size,4,none⟩=some (.int .i64 now)∧(wr.alloc (.cells #[.int .i64 sq,.int .i64 t,.int .i64 nn,.int .i64 s,.int .i64 qq,.int .i64 lo,.int .i64 hi] 56)).cell? ⟨w.heap.size,5,none⟩=some (.int .i64 seq)∧(wr.alloc (.cells #[.int .i64 sq,.int .i64 t,.int .i64 nn,.int .i64 s,.int .i64 qq,.int .i64 lo,.int .i64 hi] 56)).cell? ⟨w.heap.size,6,none⟩=some (.slice (some ⟨b,o,none⟩) n k)∧(wr.alloc (.cells #[.int .i64 sq,.int .i64 t,.int .i64 nn,.int .i64 s,.int .i64 qq,.int .i64 lo,.int .i64 hi] 56)).cell? ⟨wr.heap.size,0,none⟩=some (.int .i64 sq)∧(wr.alloc (.cells #[.int .i64 sq,.int .i64 t,.int .i64 nn,.int .i64 s,.int .i64 qq,.int .i64 lo,.int .i64 hi] 56)).cell? ⟨wr.heap.size,1,none⟩=some (.int .i64 t)∧(wr.alloc (.cells #[.int .i64 sq,.int .i64 t,.int .i64 nn,.int .i64 s,.int .i64 qq,.int .i64 lo,.int .i64 hi] 56)).cell? ⟨wr.heap.size,2,none⟩=some (.int .i64 nn)∧(wr.alloc (.cells #[.int .i64 sq,.int .i64 t,.int .i64 nn,.int .i64 s,.int .i64 qq,.int .i64 lo,.int .i64 hi] 56)).cell? ⟨wr.heap.size,3,none⟩=some (.int .i64 s)∧(wr.alloc (.cells #[.int .i64 sq,.int .i64 t,.int .i64 nn,.int .i64 s,.int .i64 qq,.int .i64 lo,.int .i64 hi] 56)).cell? ⟨wr.heap.size,4,none⟩=some (.int .i64 qq)∧(wr.alloc (.cells #[.int .i64 sq,.int .i64 t,.int .i64 nn,.int .i64 s,.int .i64 qq,.int .i64 lo,.int .i64 hi] 56)).cell? ⟨wr.heap.size,5,none⟩=some (.int .i64 lo)∧(wr.alloc (.cells #[.int .i64 sq,.int .i64 t,.int .i64 nn,.int .i64 s,.int .i64 qq,.int .i64 lo,.int .i64 hi] 56)).cell? ⟨wr.heap.size,6,none⟩=some (.int .i64 hi)∧(wr.alloc (.cells #[.int .i64 sq,.int .i64 t,.int .i64 nn,.int .i64 s,.int .i64 qq,.int .i64 lo,.int .i64 hi] 56)).cell? ⟨b,o+p * 7,none⟩=some (.int .i64 sq0)∧(wr.alloc (.cells #[.int .i64 sq,.int .i64 t,.int .i64 nn,.int .i64 s,.int .i64 qq,.int .i64 lo,.int .i64 hi] 56)).cell? ⟨b,o+p * 7+1,none⟩=some (.int .i64 t0)∧(wr.alloc (.cells #[.int .i64 sq,.int .i64 t,.int .i64 nn,.int .i64 s,.int .i64 qq,.int .i64 lo,.int .i64 hi] 56)).cell? ⟨b,o+p * 7+2,none⟩=some (.int .i64 nn0)∧(wr.alloc (.cells #[.int .i64 sq,.int .i64 t,.int .i64 nn,.int .i64 s,.int .i64 qq,.int .i64 lo,.int .i64 hi] 56)).cell? ⟨b,o+p * 7+3,none⟩=some (.int .i64 s0)∧(wr.alloc (.cells #[.int .i64 sq,.int .i64 t,.int .i64 nn,.int .i64 s,.int .i64 qq,.int .i64 lo,.int .i64 hi] 56)).cell? ⟨b,o+p * 7+4,none⟩=some (.int .i64 qq0)∧(wr.alloc (.cells #[.int .i64 sq,.int .i64 t,.int .i64 nn,.int .i64 s,.int .i64 qq,.int .i64 lo,.int .i64 hi] 56)).cell? ⟨b,o+p * 7+5,none⟩=some (.int .i64 lo0)∧(wr.alloc (.cells #[.int .i64 sq,.int .i64 t,.int .i64 nn,.int .i64 s,.int .i64 qq,.int .i64 lo,.int .i64 hi] 56)).cell? ⟨b,o+p * 7+6,none⟩=some (.int .i64 hi0)):=by
          obtain ⟨u7,f0,f1,f2,f3,f4,f5,f6,e0,e1,e2,e3,e4,e5,e6⟩:=HSS.out
          have h:=(Up.refl wr).alloc #[.int .i64 sq,.int .i64 t,.int .i64 nn,.int .i64 s,.int .i64 qq,.int .i64 lo,.int .i64 hi] 56
          exact Lib.hid ⟨u7,f0,f1,f2,f3,f4,f5,f6,e0,e1,e2,e3,e4,e5,e6,h.keep _ _ _ x0,h.keep _ _ _ x1,h.keep _ _ _ x2,h.keep _ _ _ x3,h.keep _ _ _ x4,h.keep _ _ _ x5,h.keep _ _ _ x6⟩
        have t1:decide ((0:Int)<(p:Int)+1)=true:=decide_eq_true (by omega)
        have z1:(0:Int)<(p:Int)+1:=by omega
        have z2:(p:Int)<n:=by omega
        have z3:(0:Int)≤p:=by omega
        have z5:IntKind.i64.wrap (p:Int)=p:=by rw [IntKind.wrap_i64];omega
        rw [ei] at f20 f30
        clear HP1 HQ1 HQ HP x0 x1 x2 x3 x4 x5 x6 h0
        have HA1:Hid (spB ⟨sq0,t0,nn0,s0,qq0,lo0,hi0⟩ ⟨sq,t,nn,s,qq,lo,hi⟩=true→liveB now v t=true→∀ j,j<p+1+1→pkB g v c now seq X j):=Lib.hid (fun h1 h2=>HA1.out (fun _=>h1) (fun _=>h2))
        cases hk:spB ⟨sq0,t0,nn0,s0,qq0,lo0,hi0⟩ ⟨sq,t,nn,s,qq,lo,hi⟩ with
        | false =>
          obtain rfl:r=false:=HY.out (Nat.succ_pos p) hk
          rw [hk] at KS
          clear hk HY HZ HA1 HB HB2 HT HSr
          rw [ei]
          go_wp2_with fail
          refine wp_region_held_drew (S:=fun w'=>Up w w'∧w'.cell? ⟨w.heap.size,0,none⟩=some (.int .i64 g)∧w'.cell? ⟨w.heap.size,1,none⟩=some (.int .i64 v)∧w'.cell? ⟨w.heap.size,2,none⟩=some (.int .i64 q)∧w'.cell? ⟨w.heap.size,3,none⟩=some (.int .i64 c)∧w'.cell? ⟨w.heap.size,4,none⟩=some (.int .i64 now)∧w'.cell? ⟨w.heap.size,5,none⟩=some (.int .i64 seq)∧w'.cell? ⟨w.heap.size,6,none⟩=some (.slice (some ⟨b,o,none⟩) n k)∧w'.cell? ⟨wr.heap.size,0,none⟩=some (.int .i64 sq)∧w'.cell? ⟨wr.heap.size,1,none⟩=some (.int .i64 t)∧w'.cell? ⟨wr.heap.size,2,none⟩=some (.int .i64 nn)∧w'.cell? ⟨wr.heap.size,3,none⟩=some (.int .i64 s)∧w'.cell? ⟨wr.heap.size,4,none⟩=some (.int .i64 qq)∧w'.cell? ⟨wr.heap.size,5,none⟩=some (.int .i64 lo)∧w'.cell? ⟨wr.heap.size,6,none⟩=some (.int .i64 hi)∧w'.cell? ⟨b,o+p * 7,none⟩=some (.int .i64 sq0)∧w'.cell? ⟨b,o+p * 7+1,none⟩=some (.int .i64 t0)∧w'.cell? ⟨b,o+p * 7+2,none⟩=some (.int .i64 nn0)∧w'.cell? ⟨b,o+p * 7+3,none⟩=some (.int .i64 s0)∧w'.cell? ⟨b,o+p * 7+4,none⟩=some (.int .i64 qq0)∧w'.cell? ⟨b,o+p * 7+5,none⟩=some (.int .i64 lo0)∧w'.cell? ⟨b,o+p * 7+6,none⟩=some (.int .i64 hi0)) (by kernel_rfl) ?hB30 (fun hHeld=>?_)
          case hB30=>(first | (with_reducible assumption) | (with_reducible exact keepK21 (Lib.hid (Up.refl _).drew) HSS.out) | (with_reducible exact HX2.out) | (with_reducible exact HX3.out))
          refine takeT 0 rfl (by assumption) ?_
          (try simp only [Act.put,stpA,stpB,stpC])
          refine takeT 1 rfl (by assumption) ?_
          (try simp only [Act.put,stpA,stpB,stpC])
          refine wpAnyH_ready (rs:=[2]) (by kernel_rfl) (by simp) ?_
          refine AllReadyH.cons (o:=⟨_,_,_,_,_,_⟩) rfl (fun K hK=>?_) AllReadyH.nil
          go_simp
          (go_at_call 101;(with_reducible refine (KM.out _).mono ?_);rintro e w2 ⟨rfl,hu⟩;have HU2:=Lib.hid hu;have HX2:=Lib.hid (keepK21 HU2 hHeld);clear hu)
          (try go_wp2_with fail)
          refine hK.out _ _ ?hB33 (fun hHeld=>?_)
          case hB33=>(first | (with_reducible assumption) | (with_reducible exact keepK21 (Lib.hid (Up.refl _).drew) HSS.out) | (with_reducible exact HX2.out) | (with_reducible exact HX3.out))
          clear hK K
          (try simp only [Act.put,stpA,stpB,stpC])
          refine takeT 3 rfl (by assumption) ?_
          (try simp only [Act.put,stpA,stpB,stpC])
          refine takeT 4 rfl (by assumption) ?_
          (try simp only [Act.put,stpA,stpB,stpC])
          refine takeT 5 rfl (by assumption) ?_
          (try simp only [Act.put,stpA,stpB,stpC])
          refine takeT 6 rfl (by assumption) ?_
          (try simp only [Act.put,stpA,stpB,stpC])
          refine takeT 7 rfl (by assumption) ?_
          (try simp only [Act.put,stpA,stpB,stpC])
          refine takeT 8 rfl (by assumption) ?_
          (try simp only [Act.put,stpA,stpB,stpC])
          refine takeT 9 rfl (by assumption) ?_
          (try simp only [Act.put,stpA,stpB,stpC])
          refine takeT 10 rfl (by assumption) ?_
          (try simp only [Act.put,stpA,stpB,stpC])
          refine takeT 11 rfl (by assumption) ?_
          (try simp only [Act.put,stpA,stpB,stpC])
          refine takeT 12 rfl (by assumption) ?_
          (try simp only [Act.put,stpA,stpB,stpC])
          refine takeT 13 rfl (by assumption) ?_
          (try simp only [Act.put,stpA,stpB,stpC])
          refine takeT 14 rfl (by assumption) ?_
          (try simp only [Act.put,stpA,stpB,stpC])
          refine wpAnyH_ready (rs:=[15]) (by kernel_rfl) (by simp) ?_
          refine AllReadyH.cons (o:=⟨_,_,_,_,_,_⟩) rfl (fun K hK=>?_) AllReadyH.nil
          go_simp
          (go_at_call 102;(with_reducible refine (KS.out _).mono ?_);rintro e w3 ⟨rfl,hu⟩;have HU3:=Lib.hid hu;have HX3:=Lib.hid (keepK21 HU3 hHeld);clear hu)
          (try go_wp2_with fail)
          refine hK.out _ _ ?hB46 (fun hHeld=>?_)
          case hB46=>(first | (with_reducible assumption) | (with_reducible exact keepK21 (Lib.hid (Up.refl _).drew) HSS.out) | (with_reducible exact HX2.out) | (with_reducible exact HX3.out))
          clear hK K
          (try simp only [Act.put,stpA,stpB,stpC])
          refine takeT 16 rfl (by assumption) ?_
          (try simp only [Act.put,stpA,stpB,stpC])
          refine takeT 17 rfl (by assumption) ?_
          (try simp only [Act.put,stpA,stpB,stpC])
          refine takeT 18 rfl (by assumption) ?_
          (try simp only [Act.put,stpA,stpB,stpC])
          refine wpAnyH_done (by kernel_rfl) ?_ _
          go_wp2_with fail
          go_ret
          exact ⟨rfl,HX3.out.1⟩
        | true =>
          rw [hk] at KS
          have HA1:=Lib.hid (HA1.out hk)
          clear hk HY
          rw [ei]
          go_wp2_with fail
          refine wp_region_held_drew (S:=fun w'=>Up w w'∧w'.cell? ⟨w.heap.size,0,none⟩=some (.int .i64 g)∧w'.cell? ⟨w.heap.size,1,none⟩=some (.int .i64 v)∧w'.cell? ⟨w.heap.size,2,none⟩=some (.int .i64 q)∧w'.cell? ⟨w.heap.size,3,none⟩=some (.int .i64 c)∧w'.cell? ⟨w.heap.size,4,none⟩=some (.int .i64 now)∧w'.cell? ⟨w.heap.size,5,none⟩=some (.int .i64 seq)∧w'.cell? ⟨w.heap.size,6,none⟩=some (.slice (some ⟨b,o,none⟩) n k)∧w'.cell? ⟨wr.heap.size,0,none⟩=some (.int .i64 sq)∧w'.cell? ⟨wr.heap.size,1,none⟩=some (.int .i64 t)∧w'.cell? ⟨wr.heap.size,2,none⟩=some (.int .i64 nn)∧w'.cell? ⟨wr.heap.size,3,none⟩=some (.int .i64 s)∧w'.cell? ⟨wr.heap.size,4,none⟩=some (.int .i64 qq)∧w'.cell? ⟨wr.heap.size,5,none⟩=some (.int .i64 lo)∧w'.cell? ⟨wr.heap.size,6,none⟩=some (.int .i64 hi)∧w'.cell? ⟨b,o+p * 7,none⟩=some (.int .i64 sq0)∧w'.cell? ⟨b,o+p * 7+1,none⟩=some (.int .i64 t0)∧w'.cell? ⟨b,o+p * 7+2,none⟩=some (.int .i64 nn0)∧w'.cell? ⟨b,o+p * 7+3,none⟩=some (.int .i64 s0)∧w'.cell? ⟨b,o+p * 7+4,none⟩=some (.int .i64 qq0)∧w'.cell? ⟨b,o+p * 7+5,none⟩=some (.int .i64 lo0)∧w'.cell? ⟨b,o+p * 7+6,none⟩=some (.int .i64 hi0)) (by kernel_rfl) ?hB50 (fun hHeld=>?_)
          case hB50=>(first | (with_reducible assumption) | (with_reducible exact keepK21 (Lib.hid (Up.refl _).drew) HSS.out) | (with_reducible exact HX2.out) | (with_reducible exact HX3.out))
          refine takeT 0 rfl (by assumption) ?_
          (try simp only [Act.put,stpA,stpB,stpC])
          refine takeT 1 rfl (by assumption) ?_
          (try simp only [Act.put,stpA,stpB,stpC])
          refine wpAnyH_ready (rs:=[2]) (by kernel_rfl) (by simp) ?_
          refine AllReadyH.cons (o:=⟨_,_,_,_,_,_⟩) rfl (fun K hK=>?_) AllReadyH.nil
          go_simp
          (go_at_call 101;(with_reducible refine (KM.out _).mono ?_);rintro e w2 ⟨rfl,hu⟩;have HU2:=Lib.hid hu;have HX2:=Lib.hid (keepK21 HU2 hHeld);clear hu)
          (try go_wp2_with fail)
          refine hK.out _ _ ?hB53 (fun hHeld=>?_)
          case hB53=>(first | (with_reducible assumption) | (with_reducible exact keepK21 (Lib.hid (Up.refl _).drew) HSS.out) | (with_reducible exact HX2.out) | (with_reducible exact HX3.out))
          clear hK K
          (try simp only [Act.put,stpA,stpB,stpC])
          refine takeT 3 rfl (by assumption) ?_
          (try simp only [Act.put,stpA,stpB,stpC])
          refine takeT 4 rfl (by assumption) ?_
          (try simp only [Act.put,stpA,stpB,stpC])
          refine takeT 5 rfl (by assumption) ?_
          (try simp only [Act.put,stpA,stpB,stpC])
          refine takeT 6 rfl (by assumption) ?_
          (try simp only [Act.put,stpA,stpB,stpC])
          refine takeT 7 rfl (by assumption) ?_
          (try simp only [Act.put,stpA,stpB,stpC])
          refine takeT 8 rfl (by assumption) ?_
          (try simp only [Act.put,stpA,stpB,stpC])
          refine takeT 9 rfl (by assumption) ?_
          (try simp only [Act.put,stpA,stpB,stpC])
          refine takeT 10 rfl (by assumption) ?_
          (try simp only [Act.put,stpA,stpB,stpC])
          refine takeT 11 rfl (by assumption) ?_
          (try simp only [Act.put,stpA,stpB,stpC])
          refine takeT 12 rfl (by assumption) ?_
          (try simp only [Act.put,stpA,stpB,stpC])
          refine takeT 13 rfl (by assumption) ?_
          (try simp only [Act.put,stpA,stpB,stpC])
          refine takeT 14 rfl (by assumption) ?_
          (try simp only [Act.put,stpA,stpB,stpC])
          refine wpAnyH_ready (rs:=[15]) (by kernel_rfl) (by simp) ?_
          refine AllReadyH.cons (o:=⟨_,_,_,_,_,_⟩) rfl (fun K hK=>?_) AllReadyH.nil
          go_simp
          (go_at_call 102;(with_reducible refine (KS.out _).mono ?_);rintro e w3 ⟨rfl,hu⟩;have HU3:=Lib.hid hu;have HX3:=Lib.hid (keepK21 HU3 hHeld);clear hu)
          (try go_wp2_with fail)
          refine hK.out _ _ ?hB66 (fun hHeld=>?_)
          case hB66=>(first | (with_reducible assumption) | (with_reducible exact keepK21 (Lib.hid (Up.refl _).drew) HSS.out) | (with_reducible exact HX2.out) | (with_reducible exact HX3.out))
          clear hK K
          (try simp only [Act.put,stpA,stpB,stpC])
          refine takeT 16 rfl (by assumption) ?_
          (try simp only [Act.put,stpA,stpB,stpC])
          refine takeT 17 rfl (by assumption) ?_
          (try simp only [Act.put,stpA,stpB,stpC])
          refine takeT 18 rfl (by assumption) ?_
          (try simp only [Act.put,stpA,stpB,stpC])
          refine wpAnyH_done (by kernel_rfl) ?_ _
          obtain ⟨u7,f0,f1,f2,f3,f4,f5,f6,e0,e1,e2,e3,e4,e5,e6,_⟩:=HX3.out
          (repeat clear ‹Up w _∧_›)
          cases hl:liveB now v t with
          | false =>
            obtain rfl:r=false:=HZ.out (Or.inl (Nat.succ_pos p)) hl
            rw [hl] at KL
            clear hl HZ HA1 HB HB2 HT HSr
            go_wp2_with (go_at_call 65;(with_reducible refine (KL.out _).mono ?_);rintro e w4 ⟨rfl,hu⟩;have HU4:=Lib.hid hu;clear hu)
            go_ret
            exact ⟨rfl,u7.trans HU4.out⟩
          | true =>
            have HA2:=Lib.hid (HA1.out hl)
            rw [hl] at KL
            clear hl HZ HA1 HB HB2 HT HSr
            go_wp2_with (go_at_call 65;(with_reducible refine (KL.out _).mono ?_);rintro e w4 ⟨rfl,hu⟩;have HU4:=Lib.hid hu;clear hu)
            go_roundw
            case rel=>exact ⟨p+1+1,by go_num,by omega,HA2,Lib.hid ⟨u7.trans HU4.out,HU4.out.keep _ _ _ f0,HU4.out.keep _ _ _ f1,HU4.out.keep _ _ _ f2,HU4.out.keep _ _ _ f3,HU4.out.keep _ _ _ f4,HU4.out.keep _ _ _ f5,HU4.out.keep _ _ _ f6⟩⟩
            case measure=>simp [intOf];omega
    · obtain rfl:i=n:=by omega
      rcases Nat.eq_zero_or_pos i with h0 | h0
      · obtain rfl:r=true:=HT.out HG.out (fun h=>absurd h (by rw [HL.out];omega))
        subst h0
        clear HT HB HB2 HG
        go_wp2_with fail
        have HSS:=HW
        refine wp_region_held_drew (S:=fun w'=>Up w w'∧w'.cell? ⟨w.heap.size,0,none⟩=some (.int .i64 g)∧w'.cell? ⟨w.heap.size,1,none⟩=some (.int .i64 v)∧w'.cell? ⟨w.heap.size,2,none⟩=some (.int .i64 q)∧w'.cell? ⟨w.heap.size,3,none⟩=some (.int .i64 c)∧w'.cell? ⟨w.heap.size,4,none⟩=some (.int .i64 now)∧w'.cell? ⟨w.heap.size,5,none⟩=some (.int .i64 seq)∧w'.cell? ⟨w.heap.size,6,none⟩=some (.slice A 0 k)) (by kernel_rfl) ?hB70 (fun hHeld=>?_)
        case hB70=>(first | (with_reducible assumption) | (with_reducible exact keepK7 (Lib.hid (Up.refl _).drew) HSS.out))
        refine takeT 0 rfl (by assumption) ?_
        (try simp only [Act.put,stpA,stpB,stpC])
        refine takeT 1 rfl (by assumption) ?_
        (try simp only [Act.put,stpA,stpB,stpC])
        refine takeT 2 rfl (by assumption) ?_
        (try simp only [Act.put,stpA,stpB,stpC])
        refine takeT 3 rfl (by assumption) ?_
        (try simp only [Act.put,stpA,stpB,stpC])
        refine takeT 4 rfl (by assumption) ?_
        (try simp only [Act.put,stpA,stpB,stpC])
        refine takeU 5 rfl (by assumption) ?_
        (try simp only [Act.put,stpA,stpB,stpC])
        refine takeU 6 rfl (by assumption) ?_
        (try simp only [Act.put,stpA,stpB,stpC])
        refine takeU 7 rfl (by assumption) ?_
        (try simp only [Act.put,stpA,stpB,stpC])
        refine takeU 8 rfl (by assumption) ?_
        (try simp only [Act.put,stpA,stpB,stpC])
        refine takeU 9 rfl (by assumption) ?_
        (try simp only [Act.put,stpA,stpB,stpC])
        refine takeU 10 rfl (by assumption) ?_
        (try simp only [Act.put,stpA,stpB,stpC])
        refine takeU 11 rfl (by assumption) ?_
        (try simp only [Act.put,stpA,stpB,stpC])
        refine takeU 12 rfl (by assumption) ?_
        (try simp only [Act.put,stpA,stpB,stpC])
        refine takeU 13 rfl (by assumption) ?_
        (try simp only [Act.put,stpA,stpB,stpC])
        refine takeU 14 rfl (by assumption) ?_
        (try simp only [Act.put,stpA,stpB,stpC])
        refine takeT 15 rfl (by assumption) ?_
        (try simp only [Act.put,stpA,stpB,stpC])
        refine takeT 16 rfl (by assumption) ?_
        (try simp only [Act.put,stpA,stpB,stpC])
        refine wpAnyH_done (by kernel_rfl) ?_ _
        go_wp2_with fail
        go_ret
        exact ⟨rfl,And.left (by assumption)⟩
      · obtain ⟨p,rfl⟩:∃ p,i=p+1:=⟨i - 1,by omega⟩
        have ei:((p+1:Nat):Int)=(p:Int)+1:=by omega
        have HSr:=Lib.hid (HS.out.up u7)
        obtain ⟨b,o,rfl,d0,d1,d2,d3,d4,d5,d6⟩:=mrk_at HSr.out mk0 (Nat.lt_succ_self p)
        have HB2:=Lib.hid (HB2.out (Nat.succ_pos p))
        have HT:=Lib.hid (HT.out HG.out)
        have HBM:=Lib.hid (mkB_bd (HG.out p (Nat.lt_succ_self p)).1 hc.2 hs2.2)
        rw [HL.out,Nat.add_sub_cancel] at HB2 HT
        generalize X.getD p mk0=M at *
        obtain ⟨sq,t,nn,s,qq,lo,hi⟩:=M
        simp only at d0 d1 d2 d3 d4 d5 d6
        have KA:=Lib.hid (isLast_up g v q c now seq (p+1) k (some ⟨b,o,none⟩) sq t nn s qq lo hi HBM.out.2.1.1 HBM.out.2.1.2)
        have t1:((p:Int)+1 == 0)=false:=beq_eq_false_iff_ne.2 (by omega)
        have z2:(p:Int)<(p:Int)+1:=by omega
        have z3:(0:Int)≤p:=by omega
        have z4:¬ ((p:Int)+1=0):=by omega
        have z5:IntKind.i64.wrap (p:Int)=p:=by rw [IntKind.wrap_i64];omega
        have HSS:Hid (Up w wr∧wr.cell? ⟨w.heap.size,0,none⟩=some (.int .i64 g)∧wr.cell? ⟨w.heap.size,1,none⟩=some (.int .i64 v)∧wr.cell? ⟨w.heap.size,2,none⟩=some (.int .i64 q)∧wr.cell? ⟨w.heap.size,3,none⟩=some (.int .i64 c)∧wr.cell? ⟨w.heap.size,4,none⟩=some (.int .i64 now)∧wr.cell? ⟨w.heap.size,5,none⟩=some (.int .i64 seq)∧wr.cell? ⟨w.heap.size,6,none⟩=some (.slice (some ⟨b,o,none⟩) (p+1) k)∧wr.cell? ⟨b,o+p * 7,none⟩=some (.int .i64 sq)∧wr.cell? ⟨b,o+p * 7+1,none⟩=some (.int .i64 t)∧wr.cell? ⟨b,o+p * 7+2,none⟩=some (.int .i64 nn)∧wr.cell? ⟨b,o+p * 7+3,none⟩=some (.int .i64 s)∧wr.cell? ⟨b,o+p * 7+4,none⟩=some (.int .i64 qq)∧wr.cell? ⟨b,o+p * 7+5,none⟩=some (.int .i64 lo)∧wr.cell? ⟨b,o+p * 7+6,none⟩=some (.int .i64 hi)):=Lib.hid ⟨u7,f0,f1,f2,f3,f4,f5,f6,d0,d1,d2,d3,d4,d5,d6⟩
        have HR:r=laB seq ⟨sq,t,nn,s,qq,lo,hi⟩:=by
          cases hx:laB seq ⟨sq,t,nn,s,qq,lo,hi⟩ with
          | false=>exact HB2.out hx
          | true=>exact HT.out (fun _=>hx)
        rw [← HR] at KA
        clear HR
        clear HB HB2 HT HG HSr HBM d0 d1 d2 d3 d4 d5 d6 u7 f0 f1 f2 f3 f4 f5 f6
        rw [ei]
        go_wp2_with fail
        refine wp_region_held_drew (S:=fun w'=>Up w w'∧w'.cell? ⟨w.heap.size,0,none⟩=some (.int .i64 g)∧w'.cell? ⟨w.heap.size,1,none⟩=some (.int .i64 v)∧w'.cell? ⟨w.heap.size,2,none⟩=some (.int .i64 q)∧w'.cell? ⟨w.heap.size,3,none⟩=some (.int .i64 c)∧w'.cell? ⟨w.heap.size,4,none⟩=some (.int .i64 now)∧w'.cell? ⟨w.heap.size,5,none⟩=some (.int .i64 seq)∧w'.cell? ⟨w.heap.size,6,none⟩=some (.slice (some ⟨b,o,none⟩) (p+1) k)∧w'.cell? ⟨b,o+p * 7,none⟩=some (.int .i64 sq)∧w'.cell? ⟨b,o+p * 7+1,none⟩=some (.int .i64 t)∧w'.cell? ⟨b,o+p * 7+2,none⟩=some (.int .i64 nn)∧w'.cell? ⟨b,o+p * 7+3,none⟩=some (.int .i64 s)∧w'.cell? ⟨b,o+p * 7+4,none⟩=some (.int .i64 qq)∧w'.cell? ⟨b,o+p * 7+5,none⟩=some (.int .i64 lo)∧w'.cell? ⟨b,o+p * 7+6,none⟩=some (.int .i64 hi)) (by kernel_rfl) ?hB78 (fun hHeld=>?_)
        case hB78=>(first | (with_reducible assumption) | (with_reducible exact keepK14 (Lib.hid (Up.refl _).drew) HSS.out) | (with_reducible exact HX2.out))
        refine takeT 0 rfl (by assumption) ?_
        (try simp only [Act.put,stpA,stpB,stpC])
        refine takeT 1 rfl (by assumption) ?_
        (try simp only [Act.put,stpA,stpB,stpC])
        refine takeT 2 rfl (by assumption) ?_
        (try simp only [Act.put,stpA,stpB,stpC])
        refine takeT 3 rfl (by assumption) ?_
        (try simp only [Act.put,stpA,stpB,stpC])
        refine takeT 4 rfl (by assumption) ?_
        (try simp only [Act.put,stpA,stpB,stpC])
        refine takeT 5 rfl (by assumption) ?_
        (try simp only [Act.put,stpA,stpB,stpC])
        refine takeT 6 rfl (by assumption) ?_
        (try simp only [Act.put,stpA,stpB,stpC])
        refine takeT 7 rfl (by assumption) ?_
        (try simp only [Act.put,stpA,stpB,stpC])
        refine takeT 8 rfl (by assumption) ?_
        (try simp only [Act.put,stpA,stpB,stpC])
        refine takeT 9 rfl (by assumption) ?_
        (try simp only [Act.put,stpA,stpB,stpC])
        refine takeT 10 rfl (by assumption) ?_
        (try simp only [Act.put,stpA,stpB,stpC])
        refine takeT 11 rfl (by assumption) ?_
        (try simp only [Act.put,stpA,stpB,stpC])
        refine takeT 12 rfl (by assumption) ?_
        (try simp only [Act.put,stpA,stpB,stpC])
        refine takeT 13 rfl (by assumption) ?_
        (try simp only [Act.put,stpA,stpB,stpC])
        refine wpAnyH_ready (rs:=[14]) (by kernel_rfl) (by simp) ?_
        refine AllReadyH.cons (o:=⟨_,_,_,_,_,_⟩) rfl (fun K hK=>?_) AllReadyH.nil
        go_simp
        (go_at_call 103;(with_reducible refine (KA.out _).mono ?_);rintro e w2 ⟨rfl,hu⟩;have HU2:=Lib.hid hu;have HX2:=Lib.hid (keepK14 HU2 hHeld);clear hu)
        (try go_wp2_with fail)
        refine hK.out _ _ ?hB93 (fun hHeld=>?_)
        case hB93=>(first | (with_reducible assumption) | (with_reducible exact keepK14 (Lib.hid (Up.refl _).drew) HSS.out) | (with_reducible exact HX2.out))
        clear hK K
        (try simp only [Act.put,stpA,stpB,stpC])
        refine takeT 15 rfl (by assumption) ?_
        (try simp only [Act.put,stpA,stpB,stpC])
        refine takeT 16 rfl (by assumption) ?_
        (try simp only [Act.put,stpA,stpB,stpC])
        refine wpAnyH_done (by kernel_rfl) ?_ _
        go_wp2_with fail
        go_ret
        exact ⟨rfl,HX2.out.1⟩
end Go.Proofs.YtafkoddgefcpnaaGreat

namespace Go.Proofs.YtafkoddgefcpnaaGreat
open Go.RowKit
set_option linter.unusedVariables false

theorem mayM_form (g v q c now:Int):mayM g v q c now=((agB g && (decide (1≤q∧q≤64) && decide (1≤c∧c≤65536))) && (tickB now && winB v)):=by
  unfold mayM mayC mayB
  cases agB g <;> cases tickB now <;> cases winB v <;> cases decide (1≤q∧q≤64) <;> cases decide (1≤c∧c≤65536) <;> rfl
def mg (m:Mrk):Value:=.agg #[.int .i64 m.sq,.int .i64 m.t,.int .i64 m.n,.int .i64 m.s,.int .i64 m.q,.int .i64 m.lo,.int .i64 m.hi]
/-- No distances that are too small. -/
def dfB (nr:Mrk→Mrk→Bool) (X:List Mrk):Bool:=decide (∀ j,j<X.length→1<j→nr (X.getD (j - 2) mk0) (X.getD j mk0)=false)
/-- The marks between whose aggregates that of the live items lies. -/
def enM (now v:Int):List Mrk→Mrk × Mrk
  | []=>(mk0,mk0)
  | [a]=>(a,a)
  | a :: b :: _=>if liveB now v a.t=true then (a,a) else if b.sq=a.sq+1 then (b,b) else (b,a)

def lnS:Value→Nat
  | .slice _ n _=>n
  | _=>0
theorem drL_two {lv:Mrk→Bool} {a b:Mrk} {R:List Mrk} (h:lv b=false):drL lv (a :: b :: R)=drL lv (b :: R):=by
  show (if lv b=true then a :: b :: R else drL lv (b :: R))=_
  rw [h];rfl
theorem drL_stop {lv:Mrk→Bool} {a b:Mrk} {R:List Mrk} (h:lv b=true):drL lv (a :: b :: R)=a :: b :: R:=by
  show (if lv b=true then a :: b :: R else drL lv (b :: R))=_
  rw [h];rfl
theorem drL_one {lv:Mrk→Bool} {a:Mrk}:drL lv [a]=if lv a=true then [a] else []:=rfl
theorem list_two {R:List Mrk} {m:Nat} (hl:R.length=m) (h:1<m):∃ a T,R=a :: R.getD 1 mk0 :: T∧R.drop 1=R.getD 1 mk0 :: T:=by
  match R,hl with
  | [],hl=>simp at hl;omega
  | [a],hl=>simp at hl;omega
  | a :: b :: T,_=>exact ⟨a,T,rfl,rfl⟩
theorem list_one {R:List Mrk} (hl:R.length=1):R=[R.getD 0 mk0]:=by
  match R,hl with
  | [a],_=>rfl
theorem sliceM_run (A:Option Addr) (n k:Nat) (h:1≤n) (w:World):(Instr.slice 22 (.slice A n k) (some (.int .i64 1)) none none).run Tryz.prog w=.ok (.slice (if k=1 then A else A.map (·.add (1 * 7))) (n - 1) (k - 1)) w:=by
  have qs:=Tryz.sizeOf56
  have ht:=Tryz.underlying22
  have h1:(1:Int)≤n:=by omega
  simp [Instr.slice,run_underlying ht,Instr.sliceBounds,run_sliceBound,qs,h1]

set_option maxHeartbeats 4000000 in
set_option maxRecDepth 100000 in
theorem madv_good (g v q c now seq td:Int) (n k:Nat) (A:Option Addr) (X:List Mrk) (hn:n≤50000) (hk:n≤k) (hn0:tickB now=true) (h1:now≤td) (h2:td≤16777216) (w:World) (hS:SG cM w A n X) :
    Calls Tryz.prog 26 #[.agg #[.int .i64 g,.int .i64 v,.int .i64 q,.int .i64 c,.int .i64 now,.int .i64 seq,.slice A n k],.int .i64 td] w fun e w'=>∃ A' n' k',e=.returned (.tuple #[.agg #[.int .i64 g,.int .i64 v,.int .i64 q,.int .i64 c,.int .i64 td,.int .i64 seq,.slice A' n' k'],.int .i64 0])∧n'≤n∧n'≤k'∧Nw w A'∧Up w w'∧SG cM w' A' n' (drM td v X):=by
  have HS:=Lib.hid hS
  have KB:=Lib.hid (fun W=>advance_any now td td 0 (adv_yes hn0 h1 h2) W)
  have HZ0:Hid (drL (fun m=>liveB td v m.t) X=drM td v X):=Lib.hid rfl
  clear hS hn0 h1 h2
  generalize drM td v X=Z at *
  have KL:=Lib.hid (fun (P:Mrk)=>isLive13_up g v q c td seq n k A P.sq P.t P.n P.s P.q P.lo P.hi)
  go_enter Tryz.func26,Tryz.ntmps26
  go_upto_region 5 with (go_at_call 64;(with_reducible refine (KB.out _).mono ?_);rintro e w2 ⟨rfl,rfl⟩)
  refine (show ∀ W2:World,W2=_→Code.wp _ _ _ _ W2 from fun W2 hW2=>?_) _ rfl
  have U2:Up w W2:=by rw [hW2];repeat (first | exact Up.refl _ | refine Up.alloc ?_ _ _ | refine Up.setCell ?_ (by first | (simp;done) | (simp;omega) | omega) _ | refine Up.drewN ?_ _ | refine Up.drew ?_)
  have b0:W2.cell? ⟨w.heap.size,0,none⟩=some (.int .i64 g):=by rw [hW2];simp [go_sem]
  have b1:W2.cell? ⟨w.heap.size,1,none⟩=some (.int .i64 v):=by rw [hW2];simp [go_sem]
  have b2:W2.cell? ⟨w.heap.size,2,none⟩=some (.int .i64 q):=by rw [hW2];simp [go_sem]
  have b3:W2.cell? ⟨w.heap.size,3,none⟩=some (.int .i64 c):=by rw [hW2];simp [go_sem]
  have b4:W2.cell? ⟨w.heap.size,4,none⟩=some (.int .i64 td):=by rw [hW2];simp [go_sem]
  have b5:W2.cell? ⟨w.heap.size,5,none⟩=some (.int .i64 seq):=by rw [hW2];simp [go_sem]
  have b6:W2.cell? ⟨w.heap.size,6,none⟩=some (.slice A n k):=by rw [hW2];simp [go_sem]
  have r0:W2.cell? ⟨w.heap.size+1,0,none⟩=some (.int .i64 0):=by rw [hW2];simp [go_sem]
  have r1:W2.cell? ⟨w.heap.size+1,1,none⟩=some (.int .i64 0):=by rw [hW2];simp [go_sem]
  have r2:W2.cell? ⟨w.heap.size+1,2,none⟩=some (.int .i64 0):=by rw [hW2];simp [go_sem]
  have r3:W2.cell? ⟨w.heap.size+1,3,none⟩=some (.int .i64 0):=by rw [hW2];simp [go_sem]
  have r4:W2.cell? ⟨w.heap.size+1,4,none⟩=some (.int .i64 0):=by rw [hW2];simp [go_sem]
  have r5:W2.cell? ⟨w.heap.size+1,5,none⟩=some (.int .i64 0):=by rw [hW2];simp [go_sem]
  have r6:W2.cell? ⟨w.heap.size+1,6,none⟩=some (.slice none 0 0):=by rw [hW2];simp [go_sem]
  clear hW2 KB
  have HW0:Hid (Up w W2∧W2.cell? ⟨w.heap.size,0,none⟩=some (.int .i64 g)∧W2.cell? ⟨w.heap.size,1,none⟩=some (.int .i64 v)∧W2.cell? ⟨w.heap.size,2,none⟩=some (.int .i64 q)∧W2.cell? ⟨w.heap.size,3,none⟩=some (.int .i64 c)∧W2.cell? ⟨w.heap.size,4,none⟩=some (.int .i64 td)∧W2.cell? ⟨w.heap.size,5,none⟩=some (.int .i64 seq)∧W2.cell? ⟨w.heap.size,6,none⟩=some (.slice A n k)∧W2.cell? ⟨(w.heap.size+1),0,none⟩=some (.int .i64 0)∧W2.cell? ⟨(w.heap.size+1),1,none⟩=some (.int .i64 0)∧W2.cell? ⟨(w.heap.size+1),2,none⟩=some (.int .i64 0)∧W2.cell? ⟨(w.heap.size+1),3,none⟩=some (.int .i64 0)∧W2.cell? ⟨(w.heap.size+1),4,none⟩=some (.int .i64 0)∧W2.cell? ⟨(w.heap.size+1),5,none⟩=some (.int .i64 0)∧W2.cell? ⟨(w.heap.size+1),6,none⟩=some (.slice none 0 0)):=Lib.hid ⟨U2,b0,b1,b2,b3,b4,b5,b6,r0,r1,r2,r3,r4,r5,r6⟩
  go_wp2_with fail
  clear U2 b0 b1 b2 b3 b4 b5 b6 r0 r1 r2 r3 r4 r5 r6
  go_loopw [7] (fun t8 wr=>∃ (m kk:Nat) (B:Option Addr) (R:List Mrk),t8=.slice B m kk∧m≤kk∧m≤n∧Hid (SG cM w B m R)∧Hid (drL (fun m=>liveB td v m.t) R=Z)∧Hid (Up w wr∧wr.cell? ⟨w.heap.size,0,none⟩=some (.int .i64 g)∧wr.cell? ⟨w.heap.size,1,none⟩=some (.int .i64 v)∧wr.cell? ⟨w.heap.size,2,none⟩=some (.int .i64 q)∧wr.cell? ⟨w.heap.size,3,none⟩=some (.int .i64 c)∧wr.cell? ⟨w.heap.size,4,none⟩=some (.int .i64 td)∧wr.cell? ⟨w.heap.size,5,none⟩=some (.int .i64 seq)∧wr.cell? ⟨w.heap.size,6,none⟩=some (.slice A n k)∧wr.cell? ⟨(w.heap.size+1),0,none⟩=some (.int .i64 0)∧wr.cell? ⟨(w.heap.size+1),1,none⟩=some (.int .i64 0)∧wr.cell? ⟨(w.heap.size+1),2,none⟩=some (.int .i64 0)∧wr.cell? ⟨(w.heap.size+1),3,none⟩=some (.int .i64 0)∧wr.cell? ⟨(w.heap.size+1),4,none⟩=some (.int .i64 0)∧wr.cell? ⟨(w.heap.size+1),5,none⟩=some (.int .i64 0)∧wr.cell? ⟨(w.heap.size+1),6,none⟩=some (.slice none 0 0))) (fun t8 _=>lnS t8)
  case atStart=>exact ⟨n,k,A,X,rfl,hk,Nat.le_refl _,HS,HZ0,HW0⟩
  case round =>
    clear HW0
    obtain ⟨m,kk,B,R,rfl,hmk,hmn,HR,HZ,HW⟩:=hrel
    obtain ⟨u7,b0,b1,b2,b3,b4,b5,b6,r0,r1,r2,r3,r4,r5,r6⟩:=HW.out
    by_cases h1:1<m
    · obtain ⟨a,T,e1,e2⟩:=list_two HR.out.1 h1
      have hc:=HR.out.cut cM_len (k:=1) (cap:=kk) (by omega) hmk
      obtain ⟨b,o,rfl,d0,d1,d2,d3,d4,d5,d6⟩:=mrk_at (HR.out.up u7) mk0 h1
      have HC:Hid (SG cM w (some ⟨b,o+7,none⟩) (m - 1) (R.drop 1)):=Lib.hid (by
        rw [if_neg (show ¬ kk=1 by omega)] at hc
        simpa [add_at] using hc)
      have hrun:=sliceM_run (some ⟨b,o,none⟩) m kk (by omega)
      have HE:Hid (liveB td v (R.getD 1 mk0).t=false→drL (fun m=>liveB td v m.t) (R.drop 1)=Z):=Lib.hid (fun h=>by
        rw [← HZ.out,e2];conv=>rhs;rw [e1]
        exact (drL_two h).symm)
      have HE2:Hid (liveB td v (R.getD 1 mk0).t=true→R=Z):=Lib.hid (fun h=>by
        rw [← HZ.out];conv=>rhs;rw [e1]
        rw [drL_stop h];exact e1)
      clear e1 e2 hc
      have KJ:=Lib.hid (KL.out (R.getD 1 mk0))
      generalize R.getD 1 mk0=M1 at *
      obtain ⟨sq,t,nn,s,qq,lo,hi⟩:=M1
      simp only at d0 d1 d2 d3 d4 d5 d6 HE HE2 KJ
      have z1:(1:Int)<m:=by omega
      have z2:¬ ((m:Int)=1):=by omega
      have z3:((m:Int) == 1)=false:=beq_eq_false_iff_ne.2 z2
      simp only [Nat.one_mul] at d0 d1 d2 d3 d4 d5 d6
      have HSS:Hid (Up w wr∧wr.cell? ⟨w.heap.size,0,none⟩=some (.int .i64 g)∧wr.cell? ⟨w.heap.size,1,none⟩=some (.int .i64 v)∧wr.cell? ⟨w.heap.size,2,none⟩=some (.int .i64 q)∧wr.cell? ⟨w.heap.size,3,none⟩=some (.int .i64 c)∧wr.cell? ⟨w.heap.size,4,none⟩=some (.int .i64 td)∧wr.cell? ⟨w.heap.size,5,none⟩=some (.int .i64 seq)∧wr.cell? ⟨w.heap.size,6,none⟩=some (.slice A n k)∧wr.cell? ⟨(w.heap.size+1),0,none⟩=some (.int .i64 0)∧wr.cell? ⟨(w.heap.size+1),1,none⟩=some (.int .i64 0)∧wr.cell? ⟨(w.heap.size+1),2,none⟩=some (.int .i64 0)∧wr.cell? ⟨(w.heap.size+1),3,none⟩=some (.int .i64 0)∧wr.cell? ⟨(w.heap.size+1),4,none⟩=some (.int .i64 0)∧wr.cell? ⟨(w.heap.size+1),5,none⟩=some (.int .i64 0)∧wr.cell? ⟨(w.heap.size+1),6,none⟩=some (.slice none 0 0)∧wr.cell? ⟨b,o+7,none⟩=some (.int .i64 sq)∧wr.cell? ⟨b,o+7+1,none⟩=some (.int .i64 t)∧wr.cell? ⟨b,o+7+2,none⟩=some (.int .i64 nn)∧wr.cell? ⟨b,o+7+3,none⟩=some (.int .i64 s)∧wr.cell? ⟨b,o+7+4,none⟩=some (.int .i64 qq)∧wr.cell? ⟨b,o+7+5,none⟩=some (.int .i64 lo)∧wr.cell? ⟨b,o+7+6,none⟩=some (.int .i64 hi)):=Lib.hid ⟨u7,b0,b1,b2,b3,b4,b5,b6,r0,r1,r2,r3,r4,r5,r6,d0,d1,d2,d3,d4,d5,d6⟩
      clear u7 b0 b1 b2 b3 b4 b5 b6 r0 r1 r2 r3 r4 r5 r6 d0 d1 d2 d3 d4 d5 d6
      cases hl:liveB td v t with
      | false =>
        have HE:=Lib.hid (HE.out hl)
        rw [hl] at KJ
        clear hl HE2
        go_wp2_with fail
        refine wp_region_held_drew (S:=fun w'=>Up w w'∧w'.cell? ⟨w.heap.size,0,none⟩=some (.int .i64 g)∧w'.cell? ⟨w.heap.size,1,none⟩=some (.int .i64 v)∧w'.cell? ⟨w.heap.size,2,none⟩=some (.int .i64 q)∧w'.cell? ⟨w.heap.size,3,none⟩=some (.int .i64 c)∧w'.cell? ⟨w.heap.size,4,none⟩=some (.int .i64 td)∧w'.cell? ⟨w.heap.size,5,none⟩=some (.int .i64 seq)∧w'.cell? ⟨w.heap.size,6,none⟩=some (.slice A n k)∧w'.cell? ⟨(w.heap.size+1),0,none⟩=some (.int .i64 0)∧w'.cell? ⟨(w.heap.size+1),1,none⟩=some (.int .i64 0)∧w'.cell? ⟨(w.heap.size+1),2,none⟩=some (.int .i64 0)∧w'.cell? ⟨(w.heap.size+1),3,none⟩=some (.int .i64 0)∧w'.cell? ⟨(w.heap.size+1),4,none⟩=some (.int .i64 0)∧w'.cell? ⟨(w.heap.size+1),5,none⟩=some (.int .i64 0)∧w'.cell? ⟨(w.heap.size+1),6,none⟩=some (.slice none 0 0)∧w'.cell? ⟨b,o+7,none⟩=some (.int .i64 sq)∧w'.cell? ⟨b,o+7+1,none⟩=some (.int .i64 t)∧w'.cell? ⟨b,o+7+2,none⟩=some (.int .i64 nn)∧w'.cell? ⟨b,o+7+3,none⟩=some (.int .i64 s)∧w'.cell? ⟨b,o+7+4,none⟩=some (.int .i64 qq)∧w'.cell? ⟨b,o+7+5,none⟩=some (.int .i64 lo)∧w'.cell? ⟨b,o+7+6,none⟩=some (.int .i64 hi)) (by kernel_rfl) ?hB1 (fun hHeld=>?_)
        case hB1=>(first | (with_reducible assumption) | (with_reducible exact keepK21 (Lib.hid (Up.refl _).drew) HSS.out) | (with_reducible exact HX3.out))
        refine takeT 0 rfl (by assumption) ?_
        (try simp only [Act.put,stpA,stpB,stpC])
        refine takeT 1 rfl (by assumption) ?_
        (try simp only [Act.put,stpA,stpB,stpC])
        refine takeT 2 rfl (by assumption) ?_
        (try simp only [Act.put,stpA,stpB,stpC])
        refine takeT 3 rfl (by assumption) ?_
        (try simp only [Act.put,stpA,stpB,stpC])
        refine takeT 4 rfl (by assumption) ?_
        (try simp only [Act.put,stpA,stpB,stpC])
        refine takeT 5 rfl (by assumption) ?_
        (try simp only [Act.put,stpA,stpB,stpC])
        refine takeT 6 rfl (by assumption) ?_
        (try simp only [Act.put,stpA,stpB,stpC])
        refine takeT 7 rfl (by assumption) ?_
        (try simp only [Act.put,stpA,stpB,stpC])
        refine wpAnyH_ready (rs:=[8]) (by kernel_rfl) (by simp) ?_
        refine AllReadyH.cons (o:=⟨_,_,_,_,_,_⟩) rfl (fun K hK=>?_) AllReadyH.nil
        go_simp
        (go_at_call 65;(with_reducible refine (KJ.out _).mono ?_);rintro e w3 ⟨rfl,hu⟩;have HU3:=Lib.hid hu;have HX3:=Lib.hid (keepK21 HU3 hHeld);clear hu)
        (try go_wp2_with fail)
        refine hK.out _ _ ?hB10 (fun hHeld=>?_)
        case hB10=>(first | (with_reducible assumption) | (with_reducible exact keepK21 (Lib.hid (Up.refl _).drew) HSS.out) | (with_reducible exact HX3.out))
        clear hK K
        (try simp only [Act.put,stpA,stpB,stpC])
        refine takeT 9 rfl (by assumption) ?_
        (try simp only [Act.put,stpA,stpB,stpC])
        refine takeT 10 rfl (by assumption) ?_
        (try simp only [Act.put,stpA,stpB,stpC])
        refine wpAnyH_done (by kernel_rfl) ?_ _
        obtain ⟨u8,b0,b1,b2,b3,b4,b5,b6,r0,r1,r2,r3,r4,r5,r6,_⟩:=hHeld
        (repeat clear ‹Up w _∧_›)
        have HWn:=Lib.hid (And.intro u8 (And.intro b0 (And.intro b1 (And.intro b2 (And.intro b3 (And.intro b4 (And.intro b5 (And.intro b6 (And.intro r0 (And.intro r1 (And.intro r2 (And.intro r3 (And.intro r4 (And.intro r5 r6))))))))))))))
        clear u8 b0 b1 b2 b3 b4 b5 b6 r0 r1 r2 r3 r4 r5 r6
        go_wp2_with fail
        go_roundw
        case rel=>exact ⟨m - 1,kk - 1,some ⟨b,o+7,none⟩,R.drop 1,rfl,by omega,by omega,HC,HE,HWn⟩
        case measure=>simp [lnS];omega
      | true =>
        obtain rfl:R=Z:=HE2.out hl
        rw [hl] at KJ
        clear hl HE hrun
        go_wp2_with fail
        refine wp_region_held_drew (S:=fun w'=>Up w w'∧w'.cell? ⟨w.heap.size,0,none⟩=some (.int .i64 g)∧w'.cell? ⟨w.heap.size,1,none⟩=some (.int .i64 v)∧w'.cell? ⟨w.heap.size,2,none⟩=some (.int .i64 q)∧w'.cell? ⟨w.heap.size,3,none⟩=some (.int .i64 c)∧w'.cell? ⟨w.heap.size,4,none⟩=some (.int .i64 td)∧w'.cell? ⟨w.heap.size,5,none⟩=some (.int .i64 seq)∧w'.cell? ⟨w.heap.size,6,none⟩=some (.slice A n k)∧w'.cell? ⟨(w.heap.size+1),0,none⟩=some (.int .i64 0)∧w'.cell? ⟨(w.heap.size+1),1,none⟩=some (.int .i64 0)∧w'.cell? ⟨(w.heap.size+1),2,none⟩=some (.int .i64 0)∧w'.cell? ⟨(w.heap.size+1),3,none⟩=some (.int .i64 0)∧w'.cell? ⟨(w.heap.size+1),4,none⟩=some (.int .i64 0)∧w'.cell? ⟨(w.heap.size+1),5,none⟩=some (.int .i64 0)∧w'.cell? ⟨(w.heap.size+1),6,none⟩=some (.slice none 0 0)∧w'.cell? ⟨b,o+7,none⟩=some (.int .i64 sq)∧w'.cell? ⟨b,o+7+1,none⟩=some (.int .i64 t)∧w'.cell? ⟨b,o+7+2,none⟩=some (.int .i64 nn)∧w'.cell? ⟨b,o+7+3,none⟩=some (.int .i64 s)∧w'.cell? ⟨b,o+7+4,none⟩=some (.int .i64 qq)∧w'.cell? ⟨b,o+7+5,none⟩=some (.int .i64 lo)∧w'.cell? ⟨b,o+7+6,none⟩=some (.int .i64 hi)) (by kernel_rfl) ?hB19 (fun hHeld=>?_)
        case hB19=>(first | (with_reducible assumption) | (with_reducible exact keepK21 (Lib.hid (Up.refl _).drew) HSS.out) | (with_reducible exact HX3.out))
        refine takeT 0 rfl (by assumption) ?_
        (try simp only [Act.put,stpA,stpB,stpC])
        refine takeT 1 rfl (by assumption) ?_
        (try simp only [Act.put,stpA,stpB,stpC])
        refine takeT 2 rfl (by assumption) ?_
        (try simp only [Act.put,stpA,stpB,stpC])
        refine takeT 3 rfl (by assumption) ?_
        (try simp only [Act.put,stpA,stpB,stpC])
        refine takeT 4 rfl (by assumption) ?_
        (try simp only [Act.put,stpA,stpB,stpC])
        refine takeT 5 rfl (by assumption) ?_
        (try simp only [Act.put,stpA,stpB,stpC])
        refine takeT 6 rfl (by assumption) ?_
        (try simp only [Act.put,stpA,stpB,stpC])
        refine takeT 7 rfl (by assumption) ?_
        (try simp only [Act.put,stpA,stpB,stpC])
        refine wpAnyH_ready (rs:=[8]) (by kernel_rfl) (by simp) ?_
        refine AllReadyH.cons (o:=⟨_,_,_,_,_,_⟩) rfl (fun K hK=>?_) AllReadyH.nil
        go_simp
        (go_at_call 65;(with_reducible refine (KJ.out _).mono ?_);rintro e w3 ⟨rfl,hu⟩;have HU3:=Lib.hid hu;have HX3:=Lib.hid (keepK21 HU3 hHeld);clear hu)
        (try go_wp2_with fail)
        refine hK.out _ _ ?hB28 (fun hHeld=>?_)
        case hB28=>(first | (with_reducible assumption) | (with_reducible exact keepK21 (Lib.hid (Up.refl _).drew) HSS.out) | (with_reducible exact HX3.out))
        clear hK K
        (try simp only [Act.put,stpA,stpB,stpC])
        refine takeT 9 rfl (by assumption) ?_
        (try simp only [Act.put,stpA,stpB,stpC])
        refine takeT 10 rfl (by assumption) ?_
        (try simp only [Act.put,stpA,stpB,stpC])
        refine wpAnyH_done (by kernel_rfl) ?_ _
        obtain ⟨u8,b0,b1,b2,b3,b4,b5,b6,r0,r1,r2,r3,r4,r5,r6,_⟩:=hHeld
        (repeat clear ‹Up w _∧_›)
        have HSS:=Lib.hid (And.intro u8 (And.intro b0 (And.intro b1 (And.intro b2 (And.intro b3 (And.intro b4 (And.intro b5 (And.intro b6 (And.intro r0 (And.intro r1 (And.intro r2 (And.intro r3 (And.intro r4 (And.intro r5 r6))))))))))))))
        clear u8 b0 b1 b2 b3 b4 b5 b6 r0 r1 r2 r3 r4 r5 r6 HU3
        go_wp2_with fail
        refine wp_region_held_drew (S:=fun w'=>Up w w'∧w'.cell? ⟨w.heap.size,0,none⟩=some (.int .i64 g)∧w'.cell? ⟨w.heap.size,1,none⟩=some (.int .i64 v)∧w'.cell? ⟨w.heap.size,2,none⟩=some (.int .i64 q)∧w'.cell? ⟨w.heap.size,3,none⟩=some (.int .i64 c)∧w'.cell? ⟨w.heap.size,4,none⟩=some (.int .i64 td)∧w'.cell? ⟨w.heap.size,5,none⟩=some (.int .i64 seq)∧w'.cell? ⟨w.heap.size,6,none⟩=some (.slice A n k)∧w'.cell? ⟨(w.heap.size+1),0,none⟩=some (.int .i64 0)∧w'.cell? ⟨(w.heap.size+1),1,none⟩=some (.int .i64 0)∧w'.cell? ⟨(w.heap.size+1),2,none⟩=some (.int .i64 0)∧w'.cell? ⟨(w.heap.size+1),3,none⟩=some (.int .i64 0)∧w'.cell? ⟨(w.heap.size+1),4,none⟩=some (.int .i64 0)∧w'.cell? ⟨(w.heap.size+1),5,none⟩=some (.int .i64 0)∧w'.cell? ⟨(w.heap.size+1),6,none⟩=some (.slice none 0 0)) (by kernel_rfl) ?hB13 (fun hHeld=>?_)
        case hB13=>(first | (with_reducible assumption) | (with_reducible exact keepK14 (Lib.hid (Up.refl _).drew) HSS.out))
        refine takeT 0 rfl (by assumption) ?_
        (try simp only [Act.put,stpA,stpB,stpC])
        refine takeT 1 rfl (by assumption) ?_
        (try simp only [Act.put,stpA,stpB,stpC])
        refine takeT 2 rfl (by assumption) ?_
        (try simp only [Act.put,stpA,stpB,stpC])
        refine takeT 3 rfl (by assumption) ?_
        (try simp only [Act.put,stpA,stpB,stpC])
        refine takeU 4 rfl (by assumption) ?_
        (try simp only [Act.put,stpA,stpB,stpC])
        refine takeU 5 rfl (by assumption) ?_
        (try simp only [Act.put,stpA,stpB,stpC])
        refine takeU 6 rfl (by assumption) ?_
        (try simp only [Act.put,stpA,stpB,stpC])
        refine takeU 7 rfl (by assumption) ?_
        (try simp only [Act.put,stpA,stpB,stpC])
        refine takeU 8 rfl (by assumption) ?_
        (try simp only [Act.put,stpA,stpB,stpC])
        refine takeU 9 rfl (by assumption) ?_
        (try simp only [Act.put,stpA,stpB,stpC])
        refine takeT 10 rfl (by assumption) ?_
        (try simp only [Act.put,stpA,stpB,stpC])
        refine wpAnyH_done (by kernel_rfl) ?_ _
        obtain ⟨u8,b0,b1,b2,b3,b4,b5,b6,r0,r1,r2,r3,r4,r5,r6⟩:=hHeld
        (repeat clear ‹Up w _∧_›)
        go_upto_region 10 with fail
        have hltW:=World.block_lt_of_cell? _ _ r0
        obtain ⟨A2,k2,w2,hr,hO2,hU2⟩:=appendM 22 _ _ (.slice none 0 0) 0 [] (OG.nil _ _ _) (Up.refl _) (some ⟨b,o,none⟩) m kk R (HR.out.up u8) (by omega)
        simp only [Nat.zero_add,List.nil_append] at hr hO2
        have UU:=u8.trans hU2
        have c00:=hU2.keep _ _ _ b0
        have c01:=hU2.keep _ _ _ b1
        have c02:=hU2.keep _ _ _ b2
        have c03:=hU2.keep _ _ _ b3
        have c04:=hU2.keep _ _ _ b4
        have c05:=hU2.keep _ _ _ b5
        have c06:=hU2.keep _ _ _ b6
        have c10:=hU2.keep _ _ _ r0
        have c11:=hU2.keep _ _ _ r1
        have c12:=hU2.keep _ _ _ r2
        have c13:=hU2.keep _ _ _ r3
        have c14:=hU2.keep _ _ _ r4
        have c15:=hU2.keep _ _ _ r5
        have c16:=hU2.keep _ _ _ r6
        have z06:=UU.ownGe (g:=w.heap.size) (Nat.le_refl _) 6
        have z10:=UU.ownGe (g:=w.heap.size+1) (by omega) 0
        have z11:=UU.ownGe (g:=w.heap.size+1) (by omega) 1
        have z12:=UU.ownGe (g:=w.heap.size+1) (by omega) 2
        have z13:=UU.ownGe (g:=w.heap.size+1) (by omega) 3
        have z14:=UU.ownGe (g:=w.heap.size+1) (by omega) 4
        have z15:=UU.ownGe (g:=w.heap.size+1) (by omega) 5
        have z16:=UU.ownGe (g:=w.heap.size+1) (by omega) 6
        have UU:=Lib.hid UU
        have HO2:=Lib.hid hO2
        have hlt:=World.block_lt_of_cell? _ _ c10
        clear hO2 hU2 u8 b0 b1 b2 b3 b4 b5 b6 r0 r1 r2 r3 r4 r5 r6
        (repeat clear ‹Up w _∧_›)
        go_wp2_with (refine wpList_append_run (o:=⟨some 48,_,_,_,_,_⟩) rfl (.const (.slice none 0 0)) (.tmp 47) _ rfl (.slice none 0 0) (.slice (some ⟨b,o,none⟩) m kk) rfl rfl _ _ hr ?_)
        have HNW:=OG.nw HO2.out
        refine bodyPost_ret (v:=.tuple #[.agg #[.int .i64 g,.int .i64 v,.int .i64 q,.int .i64 c,.int .i64 td,.int .i64 seq,.slice A2 m k2],.int .i64 0]) (by simp [results,Tryz.results26,go_sem,c10,c11,c12,c13,c14,c15,c16]) rfl ⟨A2,m,k2,rfl,by omega,(OG.sg HO2.out).1,fun b_ o_ h_=>by have:=HNW b_ o_ h_;omega,?_,?_⟩
        · exact (UU.out.setCell (Nat.le_refl _) _).set7 (by omega)
        · exact ((OG.sg HO2.out).2.off (fun b_ o_ h_=>by have:=HNW b_ o_ h_;omega) _).off7 (fun b_ o_ h_=>by have:=HNW b_ o_ h_;omega) _ _ _ _ _ _ _
    · by_cases h2:m=1
      · subst h2
        have HE:Hid (drL (fun m=>liveB td v m.t) [R.getD 0 mk0]=Z):=Lib.hid (by rw [← list_one HR.out.1];exact HZ.out)
        have HE2:Hid (R=[R.getD 0 mk0]):=Lib.hid (list_one HR.out.1)
        have HE3:Hid (liveB td v (R.getD 0 mk0).t=false→Z=[]):=Lib.hid (fun h=>by rw [← HE.out,drL_one,h];rfl)
        have HE4:Hid (liveB td v (R.getD 0 mk0).t=true→Z=R):=Lib.hid (fun h=>by rw [← HE.out,drL_one,h,if_pos rfl];exact HE2.out.symm)
        obtain ⟨b,o,rfl,d0,d1,d2,d3,d4,d5,d6⟩:=mrk_at (HR.out.up u7) mk0 Nat.zero_lt_one
        have KJ:=Lib.hid (KL.out (R.getD 0 mk0))
        clear HE HE2 d0 d1 d2 d3 d4 d5 d6
        have HD:=Lib.hid (fun W (h:Up w W)=>mrk_prev (HR.out.up h) Nat.zero_lt_one)
        generalize R.getD 0 mk0=M1 at *
        obtain ⟨sq,t,nn,s,qq,lo,hi⟩:=M1
        simp only [Nat.zero_mul,Nat.add_zero] at HD
        simp only at HE3 HE4 KJ
        have HSS:Hid (Up w wr∧wr.cell? ⟨w.heap.size,0,none⟩=some (.int .i64 g)∧wr.cell? ⟨w.heap.size,1,none⟩=some (.int .i64 v)∧wr.cell? ⟨w.heap.size,2,none⟩=some (.int .i64 q)∧wr.cell? ⟨w.heap.size,3,none⟩=some (.int .i64 c)∧wr.cell? ⟨w.heap.size,4,none⟩=some (.int .i64 td)∧wr.cell? ⟨w.heap.size,5,none⟩=some (.int .i64 seq)∧wr.cell? ⟨w.heap.size,6,none⟩=some (.slice A n k)∧wr.cell? ⟨(w.heap.size+1),0,none⟩=some (.int .i64 0)∧wr.cell? ⟨(w.heap.size+1),1,none⟩=some (.int .i64 0)∧wr.cell? ⟨(w.heap.size+1),2,none⟩=some (.int .i64 0)∧wr.cell? ⟨(w.heap.size+1),3,none⟩=some (.int .i64 0)∧wr.cell? ⟨(w.heap.size+1),4,none⟩=some (.int .i64 0)∧wr.cell? ⟨(w.heap.size+1),5,none⟩=some (.int .i64 0)∧wr.cell? ⟨(w.heap.size+1),6,none⟩=some (.slice none 0 0)):=Lib.hid ⟨u7,b0,b1,b2,b3,b4,b5,b6,r0,r1,r2,r3,r4,r5,r6⟩
        clear u7 b0 b1 b2 b3 b4 b5 b6 r0 r1 r2 r3 r4 r5 r6 HZ
        go_wp2_with fail
        refine wp_region_held_drew (S:=fun w'=>Up w w'∧w'.cell? ⟨w.heap.size,0,none⟩=some (.int .i64 g)∧w'.cell? ⟨w.heap.size,1,none⟩=some (.int .i64 v)∧w'.cell? ⟨w.heap.size,2,none⟩=some (.int .i64 q)∧w'.cell? ⟨w.heap.size,3,none⟩=some (.int .i64 c)∧w'.cell? ⟨w.heap.size,4,none⟩=some (.int .i64 td)∧w'.cell? ⟨w.heap.size,5,none⟩=some (.int .i64 seq)∧w'.cell? ⟨w.heap.size,6,none⟩=some (.slice A n k)∧w'.cell? ⟨(w.heap.size+1),0,none⟩=some (.int .i64 0)∧w'.cell? ⟨(w.heap.size+1),1,none⟩=some (.int .i64 0)∧w'.cell? ⟨(w.heap.size+1),2,none⟩=some (.int .i64 0)∧w'.cell? ⟨(w.heap.size+1),3,none⟩=some (.int .i64 0)∧w'.cell? ⟨(w.heap.size+1),4,none⟩=some (.int .i64 0)∧w'.cell? ⟨(w.heap.size+1),5,none⟩=some (.int .i64 0)∧w'.cell? ⟨(w.heap.size+1),6,none⟩=some (.slice none 0 0)) (by kernel_rfl) ?hB55 (fun hHeld=>?_)
        case hB55=>(first | (with_reducible assumption) | (with_reducible exact keepK14 (Lib.hid (Up.refl _).drew) HSS.out))
        refine takeT 0 rfl (by assumption) ?_
        (try simp only [Act.put,stpA,stpB,stpC])
        refine takeT 1 rfl (by assumption) ?_
        (try simp only [Act.put,stpA,stpB,stpC])
        refine takeT 2 rfl (by assumption) ?_
        (try simp only [Act.put,stpA,stpB,stpC])
        refine takeT 3 rfl (by assumption) ?_
        (try simp only [Act.put,stpA,stpB,stpC])
        refine takeU 4 rfl (by assumption) ?_
        (try simp only [Act.put,stpA,stpB,stpC])
        refine takeU 5 rfl (by assumption) ?_
        (try simp only [Act.put,stpA,stpB,stpC])
        refine takeU 6 rfl (by assumption) ?_
        (try simp only [Act.put,stpA,stpB,stpC])
        refine takeU 7 rfl (by assumption) ?_
        (try simp only [Act.put,stpA,stpB,stpC])
        refine takeU 8 rfl (by assumption) ?_
        (try simp only [Act.put,stpA,stpB,stpC])
        refine takeU 9 rfl (by assumption) ?_
        (try simp only [Act.put,stpA,stpB,stpC])
        refine takeT 10 rfl (by assumption) ?_
        (try simp only [Act.put,stpA,stpB,stpC])
        refine wpAnyH_done (by kernel_rfl) ?_ _
        obtain ⟨u8,b0,b1,b2,b3,b4,b5,b6,r0,r1,r2,r3,r4,r5,r6⟩:=hHeld
        (repeat clear ‹Up w _∧_›)
        obtain ⟨d0,d1,d2,d3,d4,d5,d6⟩:=HD.out _ u8
        have HSS:=Lib.hid (And.intro u8 (And.intro b0 (And.intro b1 (And.intro b2 (And.intro b3 (And.intro b4 (And.intro b5 (And.intro b6 (And.intro r0 (And.intro r1 (And.intro r2 (And.intro r3 (And.intro r4 (And.intro r5 (And.intro r6 (And.intro d0 (And.intro d1 (And.intro d2 (And.intro d3 (And.intro d4 (And.intro d5 d6)))))))))))))))))))))
        clear u8 b0 b1 b2 b3 b4 b5 b6 r0 r1 r2 r3 r4 r5 r6 d0 d1 d2 d3 d4 d5 d6 HD
        cases hl:liveB td v t with
        | false =>
          obtain rfl:Z=[]:=HE3.out hl
          rw [hl] at KJ
          clear hl HE3 HE4
          go_wp2_with fail
          refine wp_region_held_drew (S:=fun w'=>Up w w'∧w'.cell? ⟨w.heap.size,0,none⟩=some (.int .i64 g)∧w'.cell? ⟨w.heap.size,1,none⟩=some (.int .i64 v)∧w'.cell? ⟨w.heap.size,2,none⟩=some (.int .i64 q)∧w'.cell? ⟨w.heap.size,3,none⟩=some (.int .i64 c)∧w'.cell? ⟨w.heap.size,4,none⟩=some (.int .i64 td)∧w'.cell? ⟨w.heap.size,5,none⟩=some (.int .i64 seq)∧w'.cell? ⟨w.heap.size,6,none⟩=some (.slice A n k)∧w'.cell? ⟨(w.heap.size+1),0,none⟩=some (.int .i64 0)∧w'.cell? ⟨(w.heap.size+1),1,none⟩=some (.int .i64 0)∧w'.cell? ⟨(w.heap.size+1),2,none⟩=some (.int .i64 0)∧w'.cell? ⟨(w.heap.size+1),3,none⟩=some (.int .i64 0)∧w'.cell? ⟨(w.heap.size+1),4,none⟩=some (.int .i64 0)∧w'.cell? ⟨(w.heap.size+1),5,none⟩=some (.int .i64 0)∧w'.cell? ⟨(w.heap.size+1),6,none⟩=some (.slice none 0 0)∧w'.cell? ⟨b,o,none⟩=some (.int .i64 sq)∧w'.cell? ⟨b,o+1,none⟩=some (.int .i64 t)∧w'.cell? ⟨b,o+2,none⟩=some (.int .i64 nn)∧w'.cell? ⟨b,o+3,none⟩=some (.int .i64 s)∧w'.cell? ⟨b,o+4,none⟩=some (.int .i64 qq)∧w'.cell? ⟨b,o+5,none⟩=some (.int .i64 lo)∧w'.cell? ⟨b,o+6,none⟩=some (.int .i64 hi)) (by kernel_rfl) ?hB31 (fun hHeld=>?_)
          case hB31=>(first | (with_reducible assumption) | (with_reducible exact keepK21 (Lib.hid (Up.refl _).drew) HSS.out) | (with_reducible exact HX3.out))
          refine takeT 0 rfl (by assumption) ?_
          (try simp only [Act.put,stpA,stpB,stpC])
          refine takeT 1 rfl (by assumption) ?_
          (try simp only [Act.put,stpA,stpB,stpC])
          refine takeT 2 rfl (by assumption) ?_
          (try simp only [Act.put,stpA,stpB,stpC])
          refine takeT 3 rfl (by assumption) ?_
          (try simp only [Act.put,stpA,stpB,stpC])
          refine takeT 4 rfl (by assumption) ?_
          (try simp only [Act.put,stpA,stpB,stpC])
          refine takeT 5 rfl (by assumption) ?_
          (try simp only [Act.put,stpA,stpB,stpC])
          refine takeT 6 rfl (by assumption) ?_
          (try simp only [Act.put,stpA,stpB,stpC])
          refine takeT 7 rfl (by assumption) ?_
          (try simp only [Act.put,stpA,stpB,stpC])
          refine wpAnyH_ready (rs:=[8]) (by kernel_rfl) (by simp) ?_
          refine AllReadyH.cons (o:=⟨_,_,_,_,_,_⟩) rfl (fun K hK=>?_) AllReadyH.nil
          go_simp
          (go_at_call 65;(with_reducible refine (KJ.out _).mono ?_);rintro e w3 ⟨rfl,hu⟩;have HU3:=Lib.hid hu;have HX3:=Lib.hid (keepK21 HU3 hHeld);clear hu)
          (try go_wp2_with fail)
          refine hK.out _ _ ?hB40 (fun hHeld=>?_)
          case hB40=>(first | (with_reducible assumption) | (with_reducible exact keepK21 (Lib.hid (Up.refl _).drew) HSS.out) | (with_reducible exact HX3.out))
          clear hK K
          (try simp only [Act.put,stpA,stpB,stpC])
          refine takeT 9 rfl (by assumption) ?_
          (try simp only [Act.put,stpA,stpB,stpC])
          refine takeT 10 rfl (by assumption) ?_
          (try simp only [Act.put,stpA,stpB,stpC])
          refine wpAnyH_done (by kernel_rfl) ?_ _
          obtain ⟨u8,b0,b1,b2,b3,b4,b5,b6,r0,r1,r2,r3,r4,r5,r6,_⟩:=hHeld
          (repeat clear ‹Up w _∧_›)
          (try clear HU3)
          go_upto_region 10 with fail
          have hltW:=World.block_lt_of_cell? _ _ r0
          obtain ⟨A2,k2,w2,hr,hO2,hU2⟩:=appendM 22 _ _ (.slice none 0 0) 0 [] (OG.nil _ _ _) (Up.refl _) none 0 0 [] (SG.none_) (by omega)
          simp only [Nat.zero_add,List.nil_append] at hr hO2
          have UU:=u8.trans hU2
          have c00:=hU2.keep _ _ _ b0
          have c01:=hU2.keep _ _ _ b1
          have c02:=hU2.keep _ _ _ b2
          have c03:=hU2.keep _ _ _ b3
          have c04:=hU2.keep _ _ _ b4
          have c05:=hU2.keep _ _ _ b5
          have c06:=hU2.keep _ _ _ b6
          have c10:=hU2.keep _ _ _ r0
          have c11:=hU2.keep _ _ _ r1
          have c12:=hU2.keep _ _ _ r2
          have c13:=hU2.keep _ _ _ r3
          have c14:=hU2.keep _ _ _ r4
          have c15:=hU2.keep _ _ _ r5
          have c16:=hU2.keep _ _ _ r6
          have z06:=UU.ownGe (g:=w.heap.size) (Nat.le_refl _) 6
          have z10:=UU.ownGe (g:=w.heap.size+1) (by omega) 0
          have z11:=UU.ownGe (g:=w.heap.size+1) (by omega) 1
          have z12:=UU.ownGe (g:=w.heap.size+1) (by omega) 2
          have z13:=UU.ownGe (g:=w.heap.size+1) (by omega) 3
          have z14:=UU.ownGe (g:=w.heap.size+1) (by omega) 4
          have z15:=UU.ownGe (g:=w.heap.size+1) (by omega) 5
          have z16:=UU.ownGe (g:=w.heap.size+1) (by omega) 6
          have UU:=Lib.hid UU
          have HO2:=Lib.hid hO2
          have hlt:=World.block_lt_of_cell? _ _ c10
          clear hO2 hU2 u8 b0 b1 b2 b3 b4 b5 b6 r0 r1 r2 r3 r4 r5 r6
          (repeat clear ‹Up w _∧_›)
          go_wp2_with (refine wpList_append_run (o:=⟨some 48,_,_,_,_,_⟩) rfl (.const (.slice none 0 0)) (.tmp 47) _ rfl (.slice none 0 0) (.slice none 0 0) rfl rfl _ _ hr ?_)
          have HNW:=OG.nw HO2.out
          refine bodyPost_ret (v:=.tuple #[.agg #[.int .i64 g,.int .i64 v,.int .i64 q,.int .i64 c,.int .i64 td,.int .i64 seq,.slice A2 0 k2],.int .i64 0]) (by simp [results,Tryz.results26,go_sem,c10,c11,c12,c13,c14,c15,c16]) rfl ⟨A2,0,k2,rfl,by omega,(OG.sg HO2.out).1,fun b_ o_ h_=>by have:=HNW b_ o_ h_;omega,?_,?_⟩
          · exact (UU.out.setCell (Nat.le_refl _) _).set7 (by omega)
          · exact ((OG.sg HO2.out).2.off (fun b_ o_ h_=>by have:=HNW b_ o_ h_;omega) _).off7 (fun b_ o_ h_=>by have:=HNW b_ o_ h_;omega) _ _ _ _ _ _ _
        | true =>
          obtain rfl:Z=R:=HE4.out hl
          rw [hl] at KJ
          clear hl HE3 HE4
          go_wp2_with fail
          refine wp_region_held_drew (S:=fun w'=>Up w w'∧w'.cell? ⟨w.heap.size,0,none⟩=some (.int .i64 g)∧w'.cell? ⟨w.heap.size,1,none⟩=some (.int .i64 v)∧w'.cell? ⟨w.heap.size,2,none⟩=some (.int .i64 q)∧w'.cell? ⟨w.heap.size,3,none⟩=some (.int .i64 c)∧w'.cell? ⟨w.heap.size,4,none⟩=some (.int .i64 td)∧w'.cell? ⟨w.heap.size,5,none⟩=some (.int .i64 seq)∧w'.cell? ⟨w.heap.size,6,none⟩=some (.slice A n k)∧w'.cell? ⟨(w.heap.size+1),0,none⟩=some (.int .i64 0)∧w'.cell? ⟨(w.heap.size+1),1,none⟩=some (.int .i64 0)∧w'.cell? ⟨(w.heap.size+1),2,none⟩=some (.int .i64 0)∧w'.cell? ⟨(w.heap.size+1),3,none⟩=some (.int .i64 0)∧w'.cell? ⟨(w.heap.size+1),4,none⟩=some (.int .i64 0)∧w'.cell? ⟨(w.heap.size+1),5,none⟩=some (.int .i64 0)∧w'.cell? ⟨(w.heap.size+1),6,none⟩=some (.slice none 0 0)∧w'.cell? ⟨b,o,none⟩=some (.int .i64 sq)∧w'.cell? ⟨b,o+1,none⟩=some (.int .i64 t)∧w'.cell? ⟨b,o+2,none⟩=some (.int .i64 nn)∧w'.cell? ⟨b,o+3,none⟩=some (.int .i64 s)∧w'.cell? ⟨b,o+4,none⟩=some (.int .i64 qq)∧w'.cell? ⟨b,o+5,none⟩=some (.int .i64 lo)∧w'.cell? ⟨b,o+6,none⟩=some (.int .i64 hi)) (by kernel_rfl) ?hB43 (fun hHeld=>?_)
          case hB43=>(first | (with_reducible assumption) | (with_reducible exact keepK21 (Lib.hid (Up.refl _).drew) HSS.out) | (with_reducible exact HX3.out))
          refine takeT 0 rfl (by assumption) ?_
          (try simp only [Act.put,stpA,stpB,stpC])
          refine takeT 1 rfl (by assumption) ?_
          (try simp only [Act.put,stpA,stpB,stpC])
          refine takeT 2 rfl (by assumption) ?_
          (try simp only [Act.put,stpA,stpB,stpC])
          refine takeT 3 rfl (by assumption) ?_
          (try simp only [Act.put,stpA,stpB,stpC])
          refine takeT 4 rfl (by assumption) ?_
          (try simp only [Act.put,stpA,stpB,stpC])
          refine takeT 5 rfl (by assumption) ?_
          (try simp only [Act.put,stpA,stpB,stpC])
          refine takeT 6 rfl (by assumption) ?_
          (try simp only [Act.put,stpA,stpB,stpC])
          refine takeT 7 rfl (by assumption) ?_
          (try simp only [Act.put,stpA,stpB,stpC])
          refine wpAnyH_ready (rs:=[8]) (by kernel_rfl) (by simp) ?_
          refine AllReadyH.cons (o:=⟨_,_,_,_,_,_⟩) rfl (fun K hK=>?_) AllReadyH.nil
          go_simp
          (go_at_call 65;(with_reducible refine (KJ.out _).mono ?_);rintro e w3 ⟨rfl,hu⟩;have HU3:=Lib.hid hu;have HX3:=Lib.hid (keepK21 HU3 hHeld);clear hu)
          (try go_wp2_with fail)
          refine hK.out _ _ ?hB52 (fun hHeld=>?_)
          case hB52=>(first | (with_reducible assumption) | (with_reducible exact keepK21 (Lib.hid (Up.refl _).drew) HSS.out) | (with_reducible exact HX3.out))
          clear hK K
          (try simp only [Act.put,stpA,stpB,stpC])
          refine takeT 9 rfl (by assumption) ?_
          (try simp only [Act.put,stpA,stpB,stpC])
          refine takeT 10 rfl (by assumption) ?_
          (try simp only [Act.put,stpA,stpB,stpC])
          refine wpAnyH_done (by kernel_rfl) ?_ _
          obtain ⟨u8,b0,b1,b2,b3,b4,b5,b6,r0,r1,r2,r3,r4,r5,r6,_⟩:=hHeld
          (repeat clear ‹Up w _∧_›)
          (try clear HU3)
          go_upto_region 10 with fail
          have hltW:=World.block_lt_of_cell? _ _ r0
          obtain ⟨A2,k2,w2,hr,hO2,hU2⟩:=appendM 22 _ _ (.slice none 0 0) 0 [] (OG.nil _ _ _) (Up.refl _) (some ⟨b,o,none⟩) 1 kk Z (HR.out.up u8) (by omega)
          simp only [Nat.zero_add,List.nil_append] at hr hO2
          have UU:=u8.trans hU2
          have c00:=hU2.keep _ _ _ b0
          have c01:=hU2.keep _ _ _ b1
          have c02:=hU2.keep _ _ _ b2
          have c03:=hU2.keep _ _ _ b3
          have c04:=hU2.keep _ _ _ b4
          have c05:=hU2.keep _ _ _ b5
          have c06:=hU2.keep _ _ _ b6
          have c10:=hU2.keep _ _ _ r0
          have c11:=hU2.keep _ _ _ r1
          have c12:=hU2.keep _ _ _ r2
          have c13:=hU2.keep _ _ _ r3
          have c14:=hU2.keep _ _ _ r4
          have c15:=hU2.keep _ _ _ r5
          have c16:=hU2.keep _ _ _ r6
          have z06:=UU.ownGe (g:=w.heap.size) (Nat.le_refl _) 6
          have z10:=UU.ownGe (g:=w.heap.size+1) (by omega) 0
          have z11:=UU.ownGe (g:=w.heap.size+1) (by omega) 1
          have z12:=UU.ownGe (g:=w.heap.size+1) (by omega) 2
          have z13:=UU.ownGe (g:=w.heap.size+1) (by omega) 3
          have z14:=UU.ownGe (g:=w.heap.size+1) (by omega) 4
          have z15:=UU.ownGe (g:=w.heap.size+1) (by omega) 5
          have z16:=UU.ownGe (g:=w.heap.size+1) (by omega) 6
          have UU:=Lib.hid UU
          have HO2:=Lib.hid hO2
          have hlt:=World.block_lt_of_cell? _ _ c10
          clear hO2 hU2 u8 b0 b1 b2 b3 b4 b5 b6 r0 r1 r2 r3 r4 r5 r6
          (repeat clear ‹Up w _∧_›)
          go_wp2_with (refine wpList_append_run (o:=⟨some 48,_,_,_,_,_⟩) rfl (.const (.slice none 0 0)) (.tmp 47) _ rfl (.slice none 0 0) (.slice (some ⟨b,o,none⟩) 1 kk) rfl rfl _ _ hr ?_)
          have HNW:=OG.nw HO2.out
          refine bodyPost_ret (v:=.tuple #[.agg #[.int .i64 g,.int .i64 v,.int .i64 q,.int .i64 c,.int .i64 td,.int .i64 seq,.slice A2 1 k2],.int .i64 0]) (by simp [results,Tryz.results26,go_sem,c10,c11,c12,c13,c14,c15,c16]) rfl ⟨A2,1,k2,rfl,by omega,(OG.sg HO2.out).1,fun b_ o_ h_=>by have:=HNW b_ o_ h_;omega,?_,?_⟩
          · exact (UU.out.setCell (Nat.le_refl _) _).set7 (by omega)
          · exact ((OG.sg HO2.out).2.off (fun b_ o_ h_=>by have:=HNW b_ o_ h_;omega) _).off7 (fun b_ o_ h_=>by have:=HNW b_ o_ h_;omega) _ _ _ _ _ _ _
      · obtain rfl:m=0:=by omega
        have e:R=[]:=List.eq_nil_of_length_eq_zero HR.out.1
        have hz:=HZ.out
        rw [e] at hz
        have hz2:Z=[]:=hz.symm
        subst hz2
        clear e hz
        have HSS:Hid (Up w wr∧wr.cell? ⟨w.heap.size,0,none⟩=some (.int .i64 g)∧wr.cell? ⟨w.heap.size,1,none⟩=some (.int .i64 v)∧wr.cell? ⟨w.heap.size,2,none⟩=some (.int .i64 q)∧wr.cell? ⟨w.heap.size,3,none⟩=some (.int .i64 c)∧wr.cell? ⟨w.heap.size,4,none⟩=some (.int .i64 td)∧wr.cell? ⟨w.heap.size,5,none⟩=some (.int .i64 seq)∧wr.cell? ⟨w.heap.size,6,none⟩=some (.slice A n k)∧wr.cell? ⟨(w.heap.size+1),0,none⟩=some (.int .i64 0)∧wr.cell? ⟨(w.heap.size+1),1,none⟩=some (.int .i64 0)∧wr.cell? ⟨(w.heap.size+1),2,none⟩=some (.int .i64 0)∧wr.cell? ⟨(w.heap.size+1),3,none⟩=some (.int .i64 0)∧wr.cell? ⟨(w.heap.size+1),4,none⟩=some (.int .i64 0)∧wr.cell? ⟨(w.heap.size+1),5,none⟩=some (.int .i64 0)∧wr.cell? ⟨(w.heap.size+1),6,none⟩=some (.slice none 0 0)):=Lib.hid ⟨u7,b0,b1,b2,b3,b4,b5,b6,r0,r1,r2,r3,r4,r5,r6⟩
        clear u7 b0 b1 b2 b3 b4 b5 b6 r0 r1 r2 r3 r4 r5 r6 HZ
        go_wp2_with fail
        refine wp_region_held_drew (S:=fun w'=>Up w w'∧w'.cell? ⟨w.heap.size,0,none⟩=some (.int .i64 g)∧w'.cell? ⟨w.heap.size,1,none⟩=some (.int .i64 v)∧w'.cell? ⟨w.heap.size,2,none⟩=some (.int .i64 q)∧w'.cell? ⟨w.heap.size,3,none⟩=some (.int .i64 c)∧w'.cell? ⟨w.heap.size,4,none⟩=some (.int .i64 td)∧w'.cell? ⟨w.heap.size,5,none⟩=some (.int .i64 seq)∧w'.cell? ⟨w.heap.size,6,none⟩=some (.slice A n k)∧w'.cell? ⟨(w.heap.size+1),0,none⟩=some (.int .i64 0)∧w'.cell? ⟨(w.heap.size+1),1,none⟩=some (.int .i64 0)∧w'.cell? ⟨(w.heap.size+1),2,none⟩=some (.int .i64 0)∧w'.cell? ⟨(w.heap.size+1),3,none⟩=some (.int .i64 0)∧w'.cell? ⟨(w.heap.size+1),4,none⟩=some (.int .i64 0)∧w'.cell? ⟨(w.heap.size+1),5,none⟩=some (.int .i64 0)∧w'.cell? ⟨(w.heap.size+1),6,none⟩=some (.slice none 0 0)) (by kernel_rfl) ?hB67 (fun hHeld=>?_)
        case hB67=>(first | (with_reducible assumption) | (with_reducible exact keepK14 (Lib.hid (Up.refl _).drew) HSS.out))
        refine takeT 0 rfl (by assumption) ?_
        (try simp only [Act.put,stpA,stpB,stpC])
        refine takeT 1 rfl (by assumption) ?_
        (try simp only [Act.put,stpA,stpB,stpC])
        refine takeT 2 rfl (by assumption) ?_
        (try simp only [Act.put,stpA,stpB,stpC])
        refine takeT 3 rfl (by assumption) ?_
        (try simp only [Act.put,stpA,stpB,stpC])
        refine takeU 4 rfl (by assumption) ?_
        (try simp only [Act.put,stpA,stpB,stpC])
        refine takeU 5 rfl (by assumption) ?_
        (try simp only [Act.put,stpA,stpB,stpC])
        refine takeU 6 rfl (by assumption) ?_
        (try simp only [Act.put,stpA,stpB,stpC])
        refine takeU 7 rfl (by assumption) ?_
        (try simp only [Act.put,stpA,stpB,stpC])
        refine takeU 8 rfl (by assumption) ?_
        (try simp only [Act.put,stpA,stpB,stpC])
        refine takeU 9 rfl (by assumption) ?_
        (try simp only [Act.put,stpA,stpB,stpC])
        refine takeT 10 rfl (by assumption) ?_
        (try simp only [Act.put,stpA,stpB,stpC])
        refine wpAnyH_done (by kernel_rfl) ?_ _
        obtain ⟨u8,b0,b1,b2,b3,b4,b5,b6,r0,r1,r2,r3,r4,r5,r6⟩:=hHeld
        (repeat clear ‹Up w _∧_›)
        have HSS:=Lib.hid (And.intro u8 (And.intro b0 (And.intro b1 (And.intro b2 (And.intro b3 (And.intro b4 (And.intro b5 (And.intro b6 (And.intro r0 (And.intro r1 (And.intro r2 (And.intro r3 (And.intro r4 (And.intro r5 r6))))))))))))))
        clear u8 b0 b1 b2 b3 b4 b5 b6 r0 r1 r2 r3 r4 r5 r6
        go_wp2_with fail
        refine wp_region_held_drew (S:=fun w'=>Up w w'∧w'.cell? ⟨w.heap.size,0,none⟩=some (.int .i64 g)∧w'.cell? ⟨w.heap.size,1,none⟩=some (.int .i64 v)∧w'.cell? ⟨w.heap.size,2,none⟩=some (.int .i64 q)∧w'.cell? ⟨w.heap.size,3,none⟩=some (.int .i64 c)∧w'.cell? ⟨w.heap.size,4,none⟩=some (.int .i64 td)∧w'.cell? ⟨w.heap.size,5,none⟩=some (.int .i64 seq)∧w'.cell? ⟨w.heap.size,6,none⟩=some (.slice A n k)∧w'.cell? ⟨(w.heap.size+1),0,none⟩=some (.int .i64 0)∧w'.cell? ⟨(w.heap.size+1),1,none⟩=some (.int .i64 0)∧w'.cell? ⟨(w.heap.size+1),2,none⟩=some (.int .i64 0)∧w'.cell? ⟨(w.heap.size+1),3,none⟩=some (.int .i64 0)∧w'.cell? ⟨(w.heap.size+1),4,none⟩=some (.int .i64 0)∧w'.cell? ⟨(w.heap.size+1),5,none⟩=some (.int .i64 0)∧w'.cell? ⟨(w.heap.size+1),6,none⟩=some (.slice none 0 0)) (by kernel_rfl) ?hB61 (fun hHeld=>?_)
        case hB61=>(first | (with_reducible assumption) | (with_reducible exact keepK14 (Lib.hid (Up.refl _).drew) HSS.out))
        refine takeT 0 rfl (by assumption) ?_
        (try simp only [Act.put,stpA,stpB,stpC])
        refine takeT 1 rfl (by assumption) ?_
        (try simp only [Act.put,stpA,stpB,stpC])
        refine takeT 2 rfl (by assumption) ?_
        (try simp only [Act.put,stpA,stpB,stpC])
        refine takeT 3 rfl (by assumption) ?_
        (try simp only [Act.put,stpA,stpB,stpC])
        refine takeU 4 rfl (by assumption) ?_
        (try simp only [Act.put,stpA,stpB,stpC])
        refine takeU 5 rfl (by assumption) ?_
        (try simp only [Act.put,stpA,stpB,stpC])
        refine takeU 6 rfl (by assumption) ?_
        (try simp only [Act.put,stpA,stpB,stpC])
        refine takeU 7 rfl (by assumption) ?_
        (try simp only [Act.put,stpA,stpB,stpC])
        refine takeU 8 rfl (by assumption) ?_
        (try simp only [Act.put,stpA,stpB,stpC])
        refine takeU 9 rfl (by assumption) ?_
        (try simp only [Act.put,stpA,stpB,stpC])
        refine takeT 10 rfl (by assumption) ?_
        (try simp only [Act.put,stpA,stpB,stpC])
        refine wpAnyH_done (by kernel_rfl) ?_ _
        obtain ⟨u8,b0,b1,b2,b3,b4,b5,b6,r0,r1,r2,r3,r4,r5,r6⟩:=hHeld
        (repeat clear ‹Up w _∧_›)
        go_upto_region 10 with fail
        have hltW:=World.block_lt_of_cell? _ _ r0
        obtain ⟨A2,k2,w2,hr,hO2,hU2⟩:=appendM 22 _ _ (.slice none 0 0) 0 [] (OG.nil _ _ _) (Up.refl _) B 0 kk [] (SG.none_) (by omega)
        simp only [Nat.zero_add,List.nil_append] at hr hO2
        have UU:=u8.trans hU2
        have c00:=hU2.keep _ _ _ b0
        have c01:=hU2.keep _ _ _ b1
        have c02:=hU2.keep _ _ _ b2
        have c03:=hU2.keep _ _ _ b3
        have c04:=hU2.keep _ _ _ b4
        have c05:=hU2.keep _ _ _ b5
        have c06:=hU2.keep _ _ _ b6
        have c10:=hU2.keep _ _ _ r0
        have c11:=hU2.keep _ _ _ r1
        have c12:=hU2.keep _ _ _ r2
        have c13:=hU2.keep _ _ _ r3
        have c14:=hU2.keep _ _ _ r4
        have c15:=hU2.keep _ _ _ r5
        have c16:=hU2.keep _ _ _ r6
        have z06:=UU.ownGe (g:=w.heap.size) (Nat.le_refl _) 6
        have z10:=UU.ownGe (g:=w.heap.size+1) (by omega) 0
        have z11:=UU.ownGe (g:=w.heap.size+1) (by omega) 1
        have z12:=UU.ownGe (g:=w.heap.size+1) (by omega) 2
        have z13:=UU.ownGe (g:=w.heap.size+1) (by omega) 3
        have z14:=UU.ownGe (g:=w.heap.size+1) (by omega) 4
        have z15:=UU.ownGe (g:=w.heap.size+1) (by omega) 5
        have z16:=UU.ownGe (g:=w.heap.size+1) (by omega) 6
        have UU:=Lib.hid UU
        have HO2:=Lib.hid hO2
        have hlt:=World.block_lt_of_cell? _ _ c10
        clear hO2 hU2 u8 b0 b1 b2 b3 b4 b5 b6 r0 r1 r2 r3 r4 r5 r6
        (repeat clear ‹Up w _∧_›)
        go_wp2_with (refine wpList_append_run (o:=⟨some 48,_,_,_,_,_⟩) rfl (.const (.slice none 0 0)) (.tmp 47) _ rfl (.slice none 0 0) (.slice B 0 kk) rfl rfl _ _ hr ?_)
        have HNW:=OG.nw HO2.out
        refine bodyPost_ret (v:=.tuple #[.agg #[.int .i64 g,.int .i64 v,.int .i64 q,.int .i64 c,.int .i64 td,.int .i64 seq,.slice A2 0 k2],.int .i64 0]) (by simp [results,Tryz.results26,go_sem,c10,c11,c12,c13,c14,c15,c16]) rfl ⟨A2,0,k2,rfl,by omega,(OG.sg HO2.out).1,fun b_ o_ h_=>by have:=HNW b_ o_ h_;omega,?_,?_⟩
        · exact (UU.out.setCell (Nat.le_refl _) _).set7 (by omega)
        · exact ((OG.sg HO2.out).2.off (fun b_ o_ h_=>by have:=HNW b_ o_ h_;omega) _).off7 (fun b_ o_ h_=>by have:=HNW b_ o_ h_;omega) _ _ _ _ _ _ _

end Go.Proofs.YtafkoddgefcpnaaGreat

namespace Go.Proofs.YtafkoddgefcpnaaGreat
open Go.RowKit
set_option linter.unusedVariables false

set_option maxHeartbeats 4000000 in
set_option maxRecDepth 100000 in
theorem validDistancesS_up (nr:Mrk→Mrk→Bool) (ok:Mrk→Prop) (b1:Nat) (n k:Nat) (A:Option Addr) (X:List Mrk) (hn:n≤50000) (w:World) (hok:∀ j,j<n→ok (X.getD j mk0)) (hnr:(∀ P M:Mrk,ok P→ok M→∀ W,Up w W→Calls Tryz.prog 69 #[.agg #[.int .i64 P.sq,.int .i64 P.t,.int .i64 P.n,.int .i64 P.s,.int .i64 P.q,.int .i64 P.lo,.int .i64 P.hi],.agg #[.int .i64 M.sq,.int .i64 M.t,.int .i64 M.n,.int .i64 M.s,.int .i64 M.q,.int .i64 M.lo,.int .i64 M.hi],.pointer (some ⟨b1,0,none⟩)] W fun e w'=>e=.returned (.bool (nr P M))∧Up W w')) (hS:SG cM w A n X) :
    Calls Tryz.prog 82 #[.slice A n k,.func (.func 69) #[] #[.pointer (some ⟨b1,0,none⟩)]] w fun e w'=>e=.returned (.bool (dfB nr X))∧Up w w':=by
  have HL:=Lib.hid hS.1
  have HS:=Lib.hid hS
  have HK:=Lib.hid hok
  have KC:=Lib.hid hnr
  have HB:Hid (∀ j,j<n→1<j→nr (X.getD (j - 2) mk0) (X.getD j mk0)=true→dfB nr X=false):=Lib.hid (fun j hj h1 h=>decide_eq_false (fun hp=>by rw [hp j (by rw [HL.out];exact hj) h1] at h;cases h))
  have HT:Hid ((∀ j,j<n→1<j→nr (X.getD (j - 2) mk0) (X.getD j mk0)=false)→dfB nr X=true):=Lib.hid (fun h=>decide_eq_true (by rw [HL.out];exact h))
  generalize dfB nr X=r at *
  clear hS hok hnr
  go_enter Tryz.func82,Tryz.ntmps82
  go_wp2_with fail
  go_loopw [5] (fun t wr=>∃ p:Nat,t=.int .i64 ((p:Int)+2)∧(p+2≤n∨p=0)∧Hid (∀ j,j<p+2→1<j→nr (X.getD (j - 2) mk0) (X.getD j mk0)=false)∧Hid (Up w wr)) (fun t _=>n+2 - (intOf t).toNat)
  case atStart=>exact ⟨0,by simp,Or.inr rfl,Lib.hid (fun j h1 h2=>absurd h1 (by omega)),Lib.hid (Up.refl w)⟩
  case round =>
    obtain ⟨p,rfl,hp,HG,HW⟩:=hrel
    by_cases hx:p+2<n
    · obtain ⟨b,o,rfl,_⟩:=mrk_at (HS.out.up HW.out) mk0 hx
      obtain ⟨x0,x1,x2,x3,x4,x5,x6⟩:=mrk_prev (HS.out.up HW.out) hx
      obtain ⟨d0,d1,d2,d3,d4,d5,d6⟩:=mrk_prev (HS.out.up HW.out) (show p<n by omega)
      have K7:=Lib.hid (KC.out (X.getD p mk0) (X.getD (p+2) mk0) (HK.out _ (by omega)) (HK.out _ hx))
      have HX:Hid (nr (X.getD p mk0) (X.getD (p+2) mk0)=true→r=false):=Lib.hid (fun h=>HB.out (p+2) hx (by omega) h)
      have HA:Hid (nr (X.getD p mk0) (X.getD (p+2) mk0)=false→∀ j,j<p+1+2→1<j→nr (X.getD (j - 2) mk0) (X.getD j mk0)=false):=Lib.hid (fun h j h1 h2=>by
        rcases Nat.lt_or_ge j (p+2) with y | y
        · exact HG.out j y h2
        · obtain rfl:j=p+2:=by omega
          exact h)
      generalize X.getD p mk0=Q0 at *
      generalize X.getD (p+2) mk0=M at *
      obtain ⟨sq,t,nn,s,qq,lo,hi⟩:=M
      obtain ⟨sq1,t1,nn1,s1,qq1,lo1,hi1⟩:=Q0
      simp only at d0 d1 d2 d3 d4 d5 d6 x0 x1 x2 x3 x4 x5 x6 K7
      have f20:(p:Int)+2<n:=by omega
      have f21:(p:Int)<n:=by omega
      have f30:(0:Int)≤(p:Int)+2:=by omega
      have f31:(0:Int)≤p:=by omega
      have f34:((p:Int)+2).toNat=p+2:=by omega
      have f35:(p:Int)+2 - 2=p:=by omega
      have f36:IntKind.i64.wrap (p:Int)=p:=by rw [IntKind.wrap_i64];omega
      have HSS:Hid (Up w wr∧wr.cell? ⟨b,o+p * 7,none⟩=some (.int .i64 sq1)∧wr.cell? ⟨b,o+p * 7+1,none⟩=some (.int .i64 t1)∧wr.cell? ⟨b,o+p * 7+2,none⟩=some (.int .i64 nn1)∧wr.cell? ⟨b,o+p * 7+3,none⟩=some (.int .i64 s1)∧wr.cell? ⟨b,o+p * 7+4,none⟩=some (.int .i64 qq1)∧wr.cell? ⟨b,o+p * 7+5,none⟩=some (.int .i64 lo1)∧wr.cell? ⟨b,o+p * 7+6,none⟩=some (.int .i64 hi1)∧wr.cell? ⟨b,o+(p+2) * 7,none⟩=some (.int .i64 sq)∧wr.cell? ⟨b,o+(p+2) * 7+1,none⟩=some (.int .i64 t)∧wr.cell? ⟨b,o+(p+2) * 7+2,none⟩=some (.int .i64 nn)∧wr.cell? ⟨b,o+(p+2) * 7+3,none⟩=some (.int .i64 s)∧wr.cell? ⟨b,o+(p+2) * 7+4,none⟩=some (.int .i64 qq)∧wr.cell? ⟨b,o+(p+2) * 7+5,none⟩=some (.int .i64 lo)∧wr.cell? ⟨b,o+(p+2) * 7+6,none⟩=some (.int .i64 hi)):=Lib.hid ⟨HW.out,d0,d1,d2,d3,d4,d5,d6,x0,x1,x2,x3,x4,x5,x6⟩
      clear d0 d1 d2 d3 d4 d5 d6 x0 x1 x2 x3 x4 x5 x6 HG
      cases hk:nr ⟨sq1,t1,nn1,s1,qq1,lo1,hi1⟩ ⟨sq,t,nn,s,qq,lo,hi⟩ with
      | true =>
        obtain rfl:r=false:=HX.out hk
        rw [hk] at K7
        clear hk HX HA HB HT
        go_wp2_with fail
        refine wp_region_held_drew (S:=fun w'=>Up w w'∧w'.cell? ⟨b,o+p * 7,none⟩=some (.int .i64 sq1)∧w'.cell? ⟨b,o+p * 7+1,none⟩=some (.int .i64 t1)∧w'.cell? ⟨b,o+p * 7+2,none⟩=some (.int .i64 nn1)∧w'.cell? ⟨b,o+p * 7+3,none⟩=some (.int .i64 s1)∧w'.cell? ⟨b,o+p * 7+4,none⟩=some (.int .i64 qq1)∧w'.cell? ⟨b,o+p * 7+5,none⟩=some (.int .i64 lo1)∧w'.cell? ⟨b,o+p * 7+6,none⟩=some (.int .i64 hi1)∧w'.cell? ⟨b,o+(p+2) * 7,none⟩=some (.int .i64 sq)∧w'.cell? ⟨b,o+(p+2) * 7+1,none⟩=some (.int .i64 t)∧w'.cell? ⟨b,o+(p+2) * 7+2,none⟩=some (.int .i64 nn)∧w'.cell? ⟨b,o+(p+2) * 7+3,none⟩=some (.int .i64 s)∧w'.cell? ⟨b,o+(p+2) * 7+4,none⟩=some (.int .i64 qq)∧w'.cell? ⟨b,o+(p+2) * 7+5,none⟩=some (.int .i64 lo)∧w'.cell? ⟨b,o+(p+2) * 7+6,none⟩=some (.int .i64 hi)) (by kernel_rfl) ?hB239 (fun hHeld=>?_)
        case hB239=>(first | (with_reducible assumption) | (with_reducible exact keepK14 (Lib.hid (Up.refl _).drew) HSS.out) | (with_reducible exact HX2.out))
        refine takeT 0 rfl (by assumption) ?_
        (try simp only [Act.put,stpA,stpB,stpC])
        refine takeT 1 rfl (by assumption) ?_
        (try simp only [Act.put,stpA,stpB,stpC])
        refine takeT 2 rfl (by assumption) ?_
        (try simp only [Act.put,stpA,stpB,stpC])
        refine takeT 3 rfl (by assumption) ?_
        (try simp only [Act.put,stpA,stpB,stpC])
        refine takeT 4 rfl (by assumption) ?_
        (try simp only [Act.put,stpA,stpB,stpC])
        refine takeT 5 rfl (by assumption) ?_
        (try simp only [Act.put,stpA,stpB,stpC])
        refine takeT 6 rfl (by assumption) ?_
        (try simp only [Act.put,stpA,stpB,stpC])
        refine takeT 7 rfl (by assumption) ?_
        (try simp only [Act.put,stpA,stpB,stpC])
        refine takeT 8 rfl (by assumption) ?_
        (try simp only [Act.put,stpA,stpB,stpC])
        refine takeT 9 rfl (by assumption) ?_
        (try simp only [Act.put,stpA,stpB,stpC])
        refine wpAnyH_ready (rs:=[10]) (by kernel_rfl) (by simp) ?_
        refine AllReadyH.cons (o:=⟨_,_,_,_,_,_⟩) rfl (fun K hK=>?_) AllReadyH.nil
        go_simp
        (go_at_call 69;(with_reducible refine (K7.out _ hHeld.1).mono ?_);rintro e w2 ⟨rfl,hu⟩;have HU2:=Lib.hid hu;have HX2:=Lib.hid (keepK14 HU2 hHeld);clear hu)
        (try go_wp2_with fail)
        refine hK.out _ _ ?hB250 (fun hHeld=>?_)
        case hB250=>(first | (with_reducible assumption) | (with_reducible exact keepK14 (Lib.hid (Up.refl _).drew) HSS.out) | (with_reducible exact HX2.out))
        clear hK K
        (try simp only [Act.put,stpA,stpB,stpC])
        refine wpAnyH_done (by kernel_rfl) ?_ _
        go_wp2_with fail
        go_ret
        exact ⟨rfl,HX2.out.1⟩
      | false =>
        have HA2:=Lib.hid (HA.out hk)
        rw [hk] at K7
        clear hk HX HA HB HT
        go_wp2_with fail
        refine wp_region_held_drew (S:=fun w'=>Up w w'∧w'.cell? ⟨b,o+p * 7,none⟩=some (.int .i64 sq1)∧w'.cell? ⟨b,o+p * 7+1,none⟩=some (.int .i64 t1)∧w'.cell? ⟨b,o+p * 7+2,none⟩=some (.int .i64 nn1)∧w'.cell? ⟨b,o+p * 7+3,none⟩=some (.int .i64 s1)∧w'.cell? ⟨b,o+p * 7+4,none⟩=some (.int .i64 qq1)∧w'.cell? ⟨b,o+p * 7+5,none⟩=some (.int .i64 lo1)∧w'.cell? ⟨b,o+p * 7+6,none⟩=some (.int .i64 hi1)∧w'.cell? ⟨b,o+(p+2) * 7,none⟩=some (.int .i64 sq)∧w'.cell? ⟨b,o+(p+2) * 7+1,none⟩=some (.int .i64 t)∧w'.cell? ⟨b,o+(p+2) * 7+2,none⟩=some (.int .i64 nn)∧w'.cell? ⟨b,o+(p+2) * 7+3,none⟩=some (.int .i64 s)∧w'.cell? ⟨b,o+(p+2) * 7+4,none⟩=some (.int .i64 qq)∧w'.cell? ⟨b,o+(p+2) * 7+5,none⟩=some (.int .i64 lo)∧w'.cell? ⟨b,o+(p+2) * 7+6,none⟩=some (.int .i64 hi)) (by kernel_rfl) ?hB251 (fun hHeld=>?_)
        case hB251=>(first | (with_reducible assumption) | (with_reducible exact keepK14 (Lib.hid (Up.refl _).drew) HSS.out) | (with_reducible exact HX2.out))
        refine takeT 0 rfl (by assumption) ?_
        (try simp only [Act.put,stpA,stpB,stpC])
        refine takeT 1 rfl (by assumption) ?_
        (try simp only [Act.put,stpA,stpB,stpC])
        refine takeT 2 rfl (by assumption) ?_
        (try simp only [Act.put,stpA,stpB,stpC])
        refine takeT 3 rfl (by assumption) ?_
        (try simp only [Act.put,stpA,stpB,stpC])
        refine takeT 4 rfl (by assumption) ?_
        (try simp only [Act.put,stpA,stpB,stpC])
        refine takeT 5 rfl (by assumption) ?_
        (try simp only [Act.put,stpA,stpB,stpC])
        refine takeT 6 rfl (by assumption) ?_
        (try simp only [Act.put,stpA,stpB,stpC])
        refine takeT 7 rfl (by assumption) ?_
        (try simp only [Act.put,stpA,stpB,stpC])
        refine takeT 8 rfl (by assumption) ?_
        (try simp only [Act.put,stpA,stpB,stpC])
        refine takeT 9 rfl (by assumption) ?_
        (try simp only [Act.put,stpA,stpB,stpC])
        refine wpAnyH_ready (rs:=[10]) (by kernel_rfl) (by simp) ?_
        refine AllReadyH.cons (o:=⟨_,_,_,_,_,_⟩) rfl (fun K hK=>?_) AllReadyH.nil
        go_simp
        (go_at_call 69;(with_reducible refine (K7.out _ hHeld.1).mono ?_);rintro e w2 ⟨rfl,hu⟩;have HU2:=Lib.hid hu;have HX2:=Lib.hid (keepK14 HU2 hHeld);clear hu)
        (try go_wp2_with fail)
        refine hK.out _ _ ?hB262 (fun hHeld=>?_)
        case hB262=>(first | (with_reducible assumption) | (with_reducible exact keepK14 (Lib.hid (Up.refl _).drew) HSS.out) | (with_reducible exact HX2.out))
        clear hK K
        (try simp only [Act.put,stpA,stpB,stpC])
        refine wpAnyH_done (by kernel_rfl) ?_ _
        have UX:=Lib.hid hHeld.1
        (repeat clear ‹Up w _∧_›)
        go_wp2_with fail
        go_roundw
        case rel=>exact ⟨p+1,by go_num,by omega,HA2,UX⟩
        case measure=>simp [intOf];omega
    · obtain rfl:r=true:=HT.out (fun j h1 h2=>HG.out j (by omega) h2)
      have f20:decide ((p:Int)+2<n)=false:=decide_eq_false (by omega)
      clear HT HB HG
      go_wp2_with fail
      go_ret
      exact ⟨rfl,HW.out⟩

set_option maxHeartbeats 4000000 in
set_option maxRecDepth 100000 in
theorem mvalidS_up (nr:Mrk→Mrk→Bool) (ok:Mrk→Prop) (b1:Nat) (g v q c now seq:Int) (n k:Nat) (A:Option Addr) (X:List Mrk) (hn:n≤50000) (hok:mayM g v q c now=true→mrkB g v c now seq X=true→∀ j,j<n→ok (X.getD j mk0)) (w:World) (hnr:(∀ P M:Mrk,ok P→ok M→∀ W,Up w W→Calls Tryz.prog 69 #[.agg #[.int .i64 P.sq,.int .i64 P.t,.int .i64 P.n,.int .i64 P.s,.int .i64 P.q,.int .i64 P.lo,.int .i64 P.hi],.agg #[.int .i64 M.sq,.int .i64 M.t,.int .i64 M.n,.int .i64 M.s,.int .i64 M.q,.int .i64 M.lo,.int .i64 M.hi],.pointer (some ⟨b1,0,none⟩)] W fun e w'=>e=.returned (.bool (nr P M))∧Up W w')) (hS:SG cM w A n X) :
    Calls Tryz.prog 42 #[.agg #[.int .i64 g,.int .i64 v,.int .i64 q,.int .i64 c,.int .i64 now,.int .i64 seq,.slice A n k],.func (.func 69) #[] #[.pointer (some ⟨b1,0,none⟩)]] w fun e w'=>e=.returned (.bool (mayM g v q c now && (mrkB g v c now seq X && dfB nr X)))∧Up w w':=by
  have KS:=Lib.hid (validSizes13_any g q c)
  have KF:=Lib.hid (first_any now v)
  have HS:=Lib.hid hS
  have HR:=Lib.hid hnr
  have HOK:=Lib.hid hok
  clear hnr hok
  cases hz:(agB g && (decide (1≤q∧q≤64) && decide (1≤c∧c≤65536))) with
  | false =>
    rw [show (mayM g v q c now && (mrkB g v c now seq X && dfB nr X))=false by rw [mayM_form,hz];rfl]
    rw [hz] at KS
    clear hz hS HS HR HOK
    go_enter Tryz.func42,Tryz.ntmps42
    go_wp2_with (go_at_call 79;(with_reducible refine (KS.out _).mono ?_);rintro e w' ⟨rfl,rfl⟩)
    go_ret
    exact ⟨rfl,(Up.refl w).alloc _ _⟩
  | true =>
  rw [hz] at KS
  cases hb:(tickB now && winB v) with
  | false =>
    rw [show (mayM g v q c now && (mrkB g v c now seq X && dfB nr X))=false by rw [mayM_form,hz,hb];rfl]
    rw [firZ_no hb] at KF
    clear hz hb hS HS HR HOK
    go_enter Tryz.func42,Tryz.ntmps42
    go_wp2_with (first | (go_at_call 79;(with_reducible refine (KS.out _).mono ?_);rintro e w' ⟨rfl,rfl⟩) | (go_at_call 80;(with_reducible refine (KF.out _).mono ?_);rintro e w' ⟨rfl,rfl⟩))
    go_ret
    exact ⟨rfl,(Up.refl w).alloc _ _⟩
  | true =>
  have hm:mayM g v q c now=true:=by rw [mayM_form,hz,hb];rfl
  have h0:=firZ_low hb
  clear hz hb
  rw [hm,Bool.true_and]
  generalize firZ now v=x at *
  have t0:decide (x<0)=false:=decide_eq_false (by omega)
  clear h0
  by_cases s1:seq<0
  · rw [show mrkB g v c now seq X=false by unfold mrkB sqB;rw [decide_eq_false (p:=0≤seq∧seq≤1099511627776) (by omega),Bool.false_and],Bool.false_and]
    have t1:decide (seq<0)=true:=decide_eq_true s1
    clear s1 hm
    clear hS HS HR HOK
    go_enter Tryz.func42,Tryz.ntmps42
    go_wp2_with (first | (go_at_call 79;(with_reducible refine (KS.out _).mono ?_);rintro e w' ⟨rfl,rfl⟩) | (go_at_call 80;(with_reducible refine (KF.out _).mono ?_);rintro e w' ⟨rfl,rfl⟩))
    go_ret
    exact ⟨rfl,(Up.refl w).alloc _ _⟩
  have t1:decide (seq<0)=false:=decide_eq_false s1
  by_cases s2:1099511627776<seq
  · rw [show mrkB g v c now seq X=false by unfold mrkB sqB;rw [decide_eq_false (p:=0≤seq∧seq≤1099511627776) (by omega),Bool.false_and],Bool.false_and]
    have t2:decide (1099511627776<seq)=true:=decide_eq_true s2
    clear s1 s2 hm
    clear hS HS HR HOK
    go_enter Tryz.func42,Tryz.ntmps42
    go_wp2_with (first | (go_at_call 79;(with_reducible refine (KS.out _).mono ?_);rintro e w' ⟨rfl,rfl⟩) | (go_at_call 80;(with_reducible refine (KF.out _).mono ?_);rintro e w' ⟨rfl,rfl⟩))
    go_ret
    exact ⟨rfl,(Up.refl w).alloc _ _⟩
  have t2:decide (1099511627776<seq)=false:=decide_eq_false s2
  have hq:sqB seq=true:=decide_eq_true (by omega)
  have KM:=Lib.hid (fun W (h:SG cM W A n X)=>validMarks_up g v q c now seq n k A X hm hq hn W h)
  cases hx:mrkB g v c now seq X with
  | false =>
    rw [Bool.false_and]
    rw [hx] at KM
    clear s1 s2 hm
    clear hS hq hx HR HOK
    go_enter Tryz.func42,Tryz.ntmps42
    go_wp2_with (first | (go_at_call 79;(with_reducible refine (KS.out _).mono ?_);rintro e w' ⟨rfl,rfl⟩) | (go_at_call 80;(with_reducible refine (KF.out _).mono ?_);rintro e w' ⟨rfl,rfl⟩) | (go_at_call 81;(with_reducible refine (KM.out _ (HS.out.up ((Up.refl w).alloc _ _))).mono ?_);rintro e w1 ⟨rfl,hu⟩;have HU1:=Lib.hid hu;have c0:=hu.keep w.heap.size 0 (.int .i64 g) (by simp [go_sem]);have c1:=hu.keep w.heap.size 1 (.int .i64 v) (by simp [go_sem]);have c2:=hu.keep w.heap.size 2 (.int .i64 q) (by simp [go_sem]);have c3:=hu.keep w.heap.size 3 (.int .i64 c) (by simp [go_sem]);have c4:=hu.keep w.heap.size 4 (.int .i64 now) (by simp [go_sem]);have c5:=hu.keep w.heap.size 5 (.int .i64 seq) (by simp [go_sem]);have c6:=hu.keep w.heap.size 6 (.slice A n k) (by simp [go_sem]);clear hu))
    go_ret
    exact ⟨rfl,((Up.refl w).alloc _ _).trans HU1.out⟩
  | true =>
  rw [hx] at KM
  rw [Bool.true_and]
  have KD:=Lib.hid (fun W (hu:Up w W)=>validDistancesS_up nr ok b1 n k A X hn W (HOK.out hm hx) (fun P M h1 h2 V hV=>HR.out P M h1 h2 V (hu.trans hV)) (HS.out.up hu))
  generalize dfB nr X=r at *
  clear s1 s2 hm
  clear hS hq hx HR HOK
  go_enter Tryz.func42,Tryz.ntmps42
  go_wp2_with (first | (go_at_call 79;(with_reducible refine (KS.out _).mono ?_);rintro e w' ⟨rfl,rfl⟩) | (go_at_call 80;(with_reducible refine (KF.out _).mono ?_);rintro e w' ⟨rfl,rfl⟩) | (go_at_call 81;(with_reducible refine (KM.out _ (HS.out.up ((Up.refl w).alloc _ _))).mono ?_);rintro e w1 ⟨rfl,hu⟩;have HU1:=Lib.hid hu;have c0:=hu.keep w.heap.size 0 (.int .i64 g) (by simp [go_sem]);have c1:=hu.keep w.heap.size 1 (.int .i64 v) (by simp [go_sem]);have c2:=hu.keep w.heap.size 2 (.int .i64 q) (by simp [go_sem]);have c3:=hu.keep w.heap.size 3 (.int .i64 c) (by simp [go_sem]);have c4:=hu.keep w.heap.size 4 (.int .i64 now) (by simp [go_sem]);have c5:=hu.keep w.heap.size 5 (.int .i64 seq) (by simp [go_sem]);have c6:=hu.keep w.heap.size 6 (.slice A n k) (by simp [go_sem]);clear hu) | (go_at_call 82;(with_reducible refine (KD.out _ (((Up.refl w).alloc _ _).trans HU1.out)).mono ?_);rintro e w2 ⟨rfl,hu⟩;have HU2:=Lib.hid hu;clear hu))
  go_ret
  exact ⟨rfl,(((Up.refl w).alloc _ _).trans HU1.out).trans HU2.out⟩

end Go.Proofs.YtafkoddgefcpnaaGreat

namespace Go.Proofs.YtafkoddgefcpnaaGreat
open Go.RowKit
set_option linter.unusedVariables false

theorem set7K7 {w w1:World} {p pa:Nat} {x0 x1 x2 x3 x4 x5 x6 v0 v1 v2 v3 v4 v5 v6:Value} (h:Up w w1∧w1.cell? ⟨pa,0,none⟩=some x0∧w1.cell? ⟨pa,1,none⟩=some x1∧w1.cell? ⟨pa,2,none⟩=some x2∧w1.cell? ⟨pa,3,none⟩=some x3∧w1.cell? ⟨pa,4,none⟩=some x4∧w1.cell? ⟨pa,5,none⟩=some x5∧w1.cell? ⟨pa,6,none⟩=some x6) (hp:w.heap.size≤p) (ha:p ≠ pa):Up w (((((((w1.setCell ⟨p,0,none⟩ (v0)).setCell ⟨p,1,none⟩ (v1)).setCell ⟨p,2,none⟩ (v2)).setCell ⟨p,3,none⟩ (v3)).setCell ⟨p,4,none⟩ (v4)).setCell ⟨p,5,none⟩ (v5)).setCell ⟨p,6,none⟩ (v6))∧(((((((w1.setCell ⟨p,0,none⟩ (v0)).setCell ⟨p,1,none⟩ (v1)).setCell ⟨p,2,none⟩ (v2)).setCell ⟨p,3,none⟩ (v3)).setCell ⟨p,4,none⟩ (v4)).setCell ⟨p,5,none⟩ (v5)).setCell ⟨p,6,none⟩ (v6)).cell? ⟨pa,0,none⟩=some x0∧(((((((w1.setCell ⟨p,0,none⟩ (v0)).setCell ⟨p,1,none⟩ (v1)).setCell ⟨p,2,none⟩ (v2)).setCell ⟨p,3,none⟩ (v3)).setCell ⟨p,4,none⟩ (v4)).setCell ⟨p,5,none⟩ (v5)).setCell ⟨p,6,none⟩ (v6)).cell? ⟨pa,1,none⟩=some x1∧(((((((w1.setCell ⟨p,0,none⟩ (v0)).setCell ⟨p,1,none⟩ (v1)).setCell ⟨p,2,none⟩ (v2)).setCell ⟨p,3,none⟩ (v3)).setCell ⟨p,4,none⟩ (v4)).setCell ⟨p,5,none⟩ (v5)).setCell ⟨p,6,none⟩ (v6)).cell? ⟨pa,2,none⟩=some x2∧(((((((w1.setCell ⟨p,0,none⟩ (v0)).setCell ⟨p,1,none⟩ (v1)).setCell ⟨p,2,none⟩ (v2)).setCell ⟨p,3,none⟩ (v3)).setCell ⟨p,4,none⟩ (v4)).setCell ⟨p,5,none⟩ (v5)).setCell ⟨p,6,none⟩ (v6)).cell? ⟨pa,3,none⟩=some x3∧(((((((w1.setCell ⟨p,0,none⟩ (v0)).setCell ⟨p,1,none⟩ (v1)).setCell ⟨p,2,none⟩ (v2)).setCell ⟨p,3,none⟩ (v3)).setCell ⟨p,4,none⟩ (v4)).setCell ⟨p,5,none⟩ (v5)).setCell ⟨p,6,none⟩ (v6)).cell? ⟨pa,4,none⟩=some x4∧(((((((w1.setCell ⟨p,0,none⟩ (v0)).setCell ⟨p,1,none⟩ (v1)).setCell ⟨p,2,none⟩ (v2)).setCell ⟨p,3,none⟩ (v3)).setCell ⟨p,4,none⟩ (v4)).setCell ⟨p,5,none⟩ (v5)).setCell ⟨p,6,none⟩ (v6)).cell? ⟨pa,5,none⟩=some x5∧(((((((w1.setCell ⟨p,0,none⟩ (v0)).setCell ⟨p,1,none⟩ (v1)).setCell ⟨p,2,none⟩ (v2)).setCell ⟨p,3,none⟩ (v3)).setCell ⟨p,4,none⟩ (v4)).setCell ⟨p,5,none⟩ (v5)).setCell ⟨p,6,none⟩ (v6)).cell? ⟨pa,6,none⟩=some x6 :=
  ⟨h.1.set7 hp,far7 h.2.1 ha,far7 h.2.2.1 ha,far7 h.2.2.2.1 ha,far7 h.2.2.2.2.1 ha,far7 h.2.2.2.2.2.1 ha,far7 h.2.2.2.2.2.2.1 ha,far7 h.2.2.2.2.2.2.2 ha⟩

theorem set7K14 {w w1:World} {p pa pb:Nat} {x0 x1 x2 x3 x4 x5 x6 u0 u1 u2 u3 u4 u5 u6 v0 v1 v2 v3 v4 v5 v6:Value} (h:Up w w1∧w1.cell? ⟨pa,0,none⟩=some x0∧w1.cell? ⟨pa,1,none⟩=some x1∧w1.cell? ⟨pa,2,none⟩=some x2∧w1.cell? ⟨pa,3,none⟩=some x3∧w1.cell? ⟨pa,4,none⟩=some x4∧w1.cell? ⟨pa,5,none⟩=some x5∧w1.cell? ⟨pa,6,none⟩=some x6∧w1.cell? ⟨pb,0,none⟩=some u0∧w1.cell? ⟨pb,1,none⟩=some u1∧w1.cell? ⟨pb,2,none⟩=some u2∧w1.cell? ⟨pb,3,none⟩=some u3∧w1.cell? ⟨pb,4,none⟩=some u4∧w1.cell? ⟨pb,5,none⟩=some u5∧w1.cell? ⟨pb,6,none⟩=some u6) (hp:w.heap.size≤p) (ha:p ≠ pa) (hb:p ≠ pb):Up w (((((((w1.setCell ⟨p,0,none⟩ (v0)).setCell ⟨p,1,none⟩ (v1)).setCell ⟨p,2,none⟩ (v2)).setCell ⟨p,3,none⟩ (v3)).setCell ⟨p,4,none⟩ (v4)).setCell ⟨p,5,none⟩ (v5)).setCell ⟨p,6,none⟩ (v6))∧(((((((w1.setCell ⟨p,0,none⟩ (v0)).setCell ⟨p,1,none⟩ (v1)).setCell ⟨p,2,none⟩ (v2)).setCell ⟨p,3,none⟩ (v3)).setCell ⟨p,4,none⟩ (v4)).setCell ⟨p,5,none⟩ (v5)).setCell ⟨p,6,none⟩ (v6)).cell? ⟨pa,0,none⟩=some x0∧(((((((w1.setCell ⟨p,0,none⟩ (v0)).setCell ⟨p,1,none⟩ (v1)).setCell ⟨p,2,none⟩ (v2)).setCell ⟨p,3,none⟩ (v3)).setCell ⟨p,4,none⟩ (v4)).setCell ⟨p,5,none⟩ (v5)).setCell ⟨p,6,none⟩ (v6)).cell? ⟨pa,1,none⟩=some x1∧(((((((w1.setCell ⟨p,0,none⟩ (v0)).setCell ⟨p,1,none⟩ (v1)).setCell ⟨p,2,none⟩ (v2)).setCell ⟨p,3,none⟩ (v3)).setCell ⟨p,4,none⟩ (v4)).setCell ⟨p,5,none⟩ (v5)).setCell ⟨p,6,none⟩ (v6)).cell? ⟨pa,2,none⟩=some x2∧(((((((w1.setCell ⟨p,0,none⟩ (v0)).setCell ⟨p,1,none⟩ (v1)).setCell ⟨p,2,none⟩ (v2)).setCell ⟨p,3,none⟩ (v3)).setCell ⟨p,4,none⟩ (v4)).setCell ⟨p,5,none⟩ (v5)).setCell ⟨p,6,none⟩ (v6)).cell? ⟨pa,3,none⟩=some x3∧(((((((w1.setCell ⟨p,0,none⟩ (v0)).setCell ⟨p,1,none⟩ (v1)).setCell ⟨p,2,none⟩ (v2)).setCell ⟨p,3,none⟩ (v3)).setCell ⟨p,4,none⟩ (v4)).setCell ⟨p,5,none⟩ (v5)).setCell ⟨p,6,none⟩ (v6)).cell? ⟨pa,4,none⟩=some x4∧(((((((w1.setCell ⟨p,0,none⟩ (v0)).setCell ⟨p,1,none⟩ (v1)).setCell ⟨p,2,none⟩ (v2)).setCell ⟨p,3,none⟩ (v3)).setCell ⟨p,4,none⟩ (v4)).setCell ⟨p,5,none⟩ (v5)).setCell ⟨p,6,none⟩ (v6)).cell? ⟨pa,5,none⟩=some x5∧(((((((w1.setCell ⟨p,0,none⟩ (v0)).setCell ⟨p,1,none⟩ (v1)).setCell ⟨p,2,none⟩ (v2)).setCell ⟨p,3,none⟩ (v3)).setCell ⟨p,4,none⟩ (v4)).setCell ⟨p,5,none⟩ (v5)).setCell ⟨p,6,none⟩ (v6)).cell? ⟨pa,6,none⟩=some x6∧(((((((w1.setCell ⟨p,0,none⟩ (v0)).setCell ⟨p,1,none⟩ (v1)).setCell ⟨p,2,none⟩ (v2)).setCell ⟨p,3,none⟩ (v3)).setCell ⟨p,4,none⟩ (v4)).setCell ⟨p,5,none⟩ (v5)).setCell ⟨p,6,none⟩ (v6)).cell? ⟨pb,0,none⟩=some u0∧(((((((w1.setCell ⟨p,0,none⟩ (v0)).setCell ⟨p,1,none⟩ (v1)).setCell ⟨p,2,none⟩ (v2)).setCell ⟨p,3,none⟩ (v3)).setCell ⟨p,4,none⟩ (v4)).setCell ⟨p,5,none⟩ (v5)).setCell ⟨p,6,none⟩ (v6)).cell? ⟨pb,1,none⟩=some u1∧(((((((w1.setCell ⟨p,0,none⟩ (v0)).setCell ⟨p,1,none⟩ (v1)).setCell ⟨p,2,none⟩ (v2)).setCell ⟨p,3,none⟩ (v3)).setCell ⟨p,4,none⟩ (v4)).setCell ⟨p,5,none⟩ (v5)).setCell ⟨p,6,none⟩ (v6)).cell? ⟨pb,2,none⟩=some u2∧(((((((w1.setCell ⟨p,0,none⟩ (v0)).setCell ⟨p,1,none⟩ (v1)).setCell ⟨p,2,none⟩ (v2)).setCell ⟨p,3,none⟩ (v3)).setCell ⟨p,4,none⟩ (v4)).setCell ⟨p,5,none⟩ (v5)).setCell ⟨p,6,none⟩ (v6)).cell? ⟨pb,3,none⟩=some u3∧(((((((w1.setCell ⟨p,0,none⟩ (v0)).setCell ⟨p,1,none⟩ (v1)).setCell ⟨p,2,none⟩ (v2)).setCell ⟨p,3,none⟩ (v3)).setCell ⟨p,4,none⟩ (v4)).setCell ⟨p,5,none⟩ (v5)).setCell ⟨p,6,none⟩ (v6)).cell? ⟨pb,4,none⟩=some u4∧(((((((w1.setCell ⟨p,0,none⟩ (v0)).setCell ⟨p,1,none⟩ (v1)).setCell ⟨p,2,none⟩ (v2)).setCell ⟨p,3,none⟩ (v3)).setCell ⟨p,4,none⟩ (v4)).setCell ⟨p,5,none⟩ (v5)).setCell ⟨p,6,none⟩ (v6)).cell? ⟨pb,5,none⟩=some u5∧(((((((w1.setCell ⟨p,0,none⟩ (v0)).setCell ⟨p,1,none⟩ (v1)).setCell ⟨p,2,none⟩ (v2)).setCell ⟨p,3,none⟩ (v3)).setCell ⟨p,4,none⟩ (v4)).setCell ⟨p,5,none⟩ (v5)).setCell ⟨p,6,none⟩ (v6)).cell? ⟨pb,6,none⟩=some u6 :=
  ⟨h.1.set7 hp,far7 h.2.1 ha,far7 h.2.2.1 ha,far7 h.2.2.2.1 ha,far7 h.2.2.2.2.1 ha,far7 h.2.2.2.2.2.1 ha,far7 h.2.2.2.2.2.2.1 ha,far7 h.2.2.2.2.2.2.2.1 ha,far7 h.2.2.2.2.2.2.2.2.1 hb,far7 h.2.2.2.2.2.2.2.2.2.1 hb,far7 h.2.2.2.2.2.2.2.2.2.2.1 hb,far7 h.2.2.2.2.2.2.2.2.2.2.2.1 hb,far7 h.2.2.2.2.2.2.2.2.2.2.2.2.1 hb,far7 h.2.2.2.2.2.2.2.2.2.2.2.2.2.1 hb,far7 h.2.2.2.2.2.2.2.2.2.2.2.2.2.2 hb⟩

set_option maxHeartbeats 4000000 in
set_option maxRecDepth 100000 in
theorem mends_none (g v q c now seq:Int) (k:Nat) (A:Option Addr) (w:World) :
    Calls Tryz.prog 36 #[.agg #[.int .i64 g,.int .i64 v,.int .i64 q,.int .i64 c,.int .i64 now,.int .i64 seq,.slice A 0 k]] w fun e w'=>e=.returned (.tuple #[.agg #[.int .i64 0,.int .i64 0,.int .i64 0,.int .i64 0,.int .i64 0,.int .i64 0,.int .i64 0],.agg #[.int .i64 0,.int .i64 0,.int .i64 0,.int .i64 0,.int .i64 0,.int .i64 0,.int .i64 0]])∧Up w w':=by
  go_enter Tryz.func36,Tryz.ntmps36
  go_wp2
  refine bodyPost_ret (v:=.tuple #[.agg #[.int .i64 0,.int .i64 0,.int .i64 0,.int .i64 0,.int .i64 0,.int .i64 0,.int .i64 0],.agg #[.int .i64 0,.int .i64 0,.int .i64 0,.int .i64 0,.int .i64 0,.int .i64 0,.int .i64 0]]) (by simp [results,Tryz.results36,go_sem]) rfl ⟨?_,?_⟩
  · rfl
  · repeat (first | exact Up.refl _ | refine Up.alloc ?_ _ _ | refine Up.setCell ?_ (by first | (simp;done) | (simp;omega) | omega) _ | refine Up.drewN ?_ _ | refine Up.drew ?_)

set_option maxHeartbeats 4000000 in
set_option maxRecDepth 100000 in
theorem mends_first (g v q c now seq:Int) (n k:Nat) (A:Option Addr) (X:List Mrk) (hn:n≤50000) (h0:0<n) (hl:liveB now v (X.getD 0 mk0).t=true) (w:World) (hS:SG cM w A n X) :
    Calls Tryz.prog 36 #[.agg #[.int .i64 g,.int .i64 v,.int .i64 q,.int .i64 c,.int .i64 now,.int .i64 seq,.slice A n k]] w fun e w'=>e=.returned (.tuple #[mg (X.getD 0 mk0),mg (X.getD 0 mk0)])∧Up w w':=by
  have HS:=Lib.hid hS
  obtain ⟨b,o,rfl,_⟩:=mrk_at HS.out mk0 h0
  have HD0:=Lib.hid (fun W (h:Up w W)=>mrk_prev (HS.out.up h) h0)
  simp only [Nat.zero_mul,Nat.add_zero] at HD0
  have f20:(0:Int)<n:=by omega
  have t0:((n:Int) == 0)=false:=beq_eq_false_iff_ne.2 (by omega)
  have t0':¬ ((n:Int)=0):=by omega
  generalize X.getD 0 mk0=Ma at *
  obtain ⟨sq1,t1,nn1,s1,qq1,lo1,hi1⟩:=Ma
  simp only at HD0 hl
  have KL:=Lib.hid (isLive13_up g v q c now seq n k (some ⟨b,o,none⟩) sq1 t1 nn1 s1 qq1 lo1 hi1)
  rw [hl] at KL
  clear hl hS
  show Calls _ _ _ _ (fun e w'=>e=.returned (.tuple #[.agg #[.int .i64 sq1,.int .i64 t1,.int .i64 nn1,.int .i64 s1,.int .i64 qq1,.int .i64 lo1,.int .i64 hi1],.agg #[.int .i64 sq1,.int .i64 t1,.int .i64 nn1,.int .i64 s1,.int .i64 qq1,.int .i64 lo1,.int .i64 hi1]])∧Up w w')
  go_enter Tryz.func36,Tryz.ntmps36
  go_upto_region 3 with fail
  refine (show ∀ w1:World,w1=_→Code.wp _ _ _ _ w1 from fun w1 hw1=>?_) _ rfl
  have HW:Hid (Up w w1):=Lib.hid (by rw [hw1];exact (((Up.refl w).alloc _ _).alloc _ _).alloc _ _)
  have a0:w1.cell? ⟨w.heap.size,0,none⟩=some (.int .i64 g):=by rw [hw1];simp [go_sem]
  have a1:w1.cell? ⟨w.heap.size,1,none⟩=some (.int .i64 v):=by rw [hw1];simp [go_sem]
  have a2:w1.cell? ⟨w.heap.size,2,none⟩=some (.int .i64 q):=by rw [hw1];simp [go_sem]
  have a3:w1.cell? ⟨w.heap.size,3,none⟩=some (.int .i64 c):=by rw [hw1];simp [go_sem]
  have a4:w1.cell? ⟨w.heap.size,4,none⟩=some (.int .i64 now):=by rw [hw1];simp [go_sem]
  have a5:w1.cell? ⟨w.heap.size,5,none⟩=some (.int .i64 seq):=by rw [hw1];simp [go_sem]
  have a6:w1.cell? ⟨w.heap.size,6,none⟩=some (.slice (some ⟨b,o,none⟩) n k):=by rw [hw1];simp [go_sem]
  have r0:w1.cell? ⟨w.heap.size+1,0,none⟩=some (.int .i64 0):=by rw [hw1];simp [go_sem]
  have r1:w1.cell? ⟨w.heap.size+1,1,none⟩=some (.int .i64 0):=by rw [hw1];simp [go_sem]
  have r2:w1.cell? ⟨w.heap.size+1,2,none⟩=some (.int .i64 0):=by rw [hw1];simp [go_sem]
  have r3:w1.cell? ⟨w.heap.size+1,3,none⟩=some (.int .i64 0):=by rw [hw1];simp [go_sem]
  have r4:w1.cell? ⟨w.heap.size+1,4,none⟩=some (.int .i64 0):=by rw [hw1];simp [go_sem]
  have r5:w1.cell? ⟨w.heap.size+1,5,none⟩=some (.int .i64 0):=by rw [hw1];simp [go_sem]
  have r6:w1.cell? ⟨w.heap.size+1,6,none⟩=some (.int .i64 0):=by rw [hw1];simp [go_sem]
  have y0:w1.cell? ⟨w.heap.size+1+1,0,none⟩=some (.int .i64 0):=by rw [hw1];simp [go_sem]
  have y1:w1.cell? ⟨w.heap.size+1+1,1,none⟩=some (.int .i64 0):=by rw [hw1];simp [go_sem]
  have y2:w1.cell? ⟨w.heap.size+1+1,2,none⟩=some (.int .i64 0):=by rw [hw1];simp [go_sem]
  have y3:w1.cell? ⟨w.heap.size+1+1,3,none⟩=some (.int .i64 0):=by rw [hw1];simp [go_sem]
  have y4:w1.cell? ⟨w.heap.size+1+1,4,none⟩=some (.int .i64 0):=by rw [hw1];simp [go_sem]
  have y5:w1.cell? ⟨w.heap.size+1+1,5,none⟩=some (.int .i64 0):=by rw [hw1];simp [go_sem]
  have y6:w1.cell? ⟨w.heap.size+1+1,6,none⟩=some (.int .i64 0):=by rw [hw1];simp [go_sem]
  have hl1:w.heap.size+1+1<w1.heap.size:=World.block_lt_of_cell? _ _ y0
  clear hw1
  obtain ⟨d0,d1,d2,d3,d4,d5,d6⟩:=HD0.out _ HW.out
  go_upto_region 4 with fail
  refine (show ∀ W2:World,W2=_→Code.wp _ _ _ _ W2 from fun W2 hW2=>?_) _ rfl
  have hv:Up w1 W2:=by rw [hW2];exact (Up.refl _).alloc _ _
  have m0:W2.cell? ⟨w1.heap.size,0,none⟩=some (.int .i64 sq1):=by rw [hW2];simp [go_sem]
  have m1:W2.cell? ⟨w1.heap.size,1,none⟩=some (.int .i64 t1):=by rw [hW2];simp [go_sem]
  have m2:W2.cell? ⟨w1.heap.size,2,none⟩=some (.int .i64 nn1):=by rw [hW2];simp [go_sem]
  have m3:W2.cell? ⟨w1.heap.size,3,none⟩=some (.int .i64 s1):=by rw [hW2];simp [go_sem]
  have m4:W2.cell? ⟨w1.heap.size,4,none⟩=some (.int .i64 qq1):=by rw [hW2];simp [go_sem]
  have m5:W2.cell? ⟨w1.heap.size,5,none⟩=some (.int .i64 lo1):=by rw [hW2];simp [go_sem]
  have m6:W2.cell? ⟨w1.heap.size,6,none⟩=some (.int .i64 hi1):=by rw [hW2];simp [go_sem]
  have a0:=hv.keep _ _ _ a0
  have a1:=hv.keep _ _ _ a1
  have a2:=hv.keep _ _ _ a2
  have a3:=hv.keep _ _ _ a3
  have a4:=hv.keep _ _ _ a4
  have a5:=hv.keep _ _ _ a5
  have a6:=hv.keep _ _ _ a6
  have r0:=hv.keep _ _ _ r0
  have r1:=hv.keep _ _ _ r1
  have r2:=hv.keep _ _ _ r2
  have r3:=hv.keep _ _ _ r3
  have r4:=hv.keep _ _ _ r4
  have r5:=hv.keep _ _ _ r5
  have r6:=hv.keep _ _ _ r6
  have y0:=hv.keep _ _ _ y0
  have y1:=hv.keep _ _ _ y1
  have y2:=hv.keep _ _ _ y2
  have y3:=hv.keep _ _ _ y3
  have y4:=hv.keep _ _ _ y4
  have y5:=hv.keep _ _ _ y5
  have y6:=hv.keep _ _ _ y6
  have HW:=Lib.hid (HW.out.trans hv)
  clear hv hW2 d0 d1 d2 d3 d4 d5 d6
  generalize w1.heap.size=p1 at *
  go_upto_region 5 with (go_at_call 65;(with_reducible refine (KL.out _).mono ?_);rintro e w3 ⟨rfl,hu⟩;have HW:=Lib.hid (HW.out.trans hu);have a6:=hu.keep _ _ _ a6;have r0:=hu.keep _ _ _ r0;have r1:=hu.keep _ _ _ r1;have r2:=hu.keep _ _ _ r2;have r3:=hu.keep _ _ _ r3;have r4:=hu.keep _ _ _ r4;have r5:=hu.keep _ _ _ r5;have r6:=hu.keep _ _ _ r6;have y0:=hu.keep _ _ _ y0;have y1:=hu.keep _ _ _ y1;have y2:=hu.keep _ _ _ y2;have y3:=hu.keep _ _ _ y3;have y4:=hu.keep _ _ _ y4;have y5:=hu.keep _ _ _ y5;have y6:=hu.keep _ _ _ y6;have m0:=hu.keep _ _ _ m0;have m1:=hu.keep _ _ _ m1;have m2:=hu.keep _ _ _ m2;have m3:=hu.keep _ _ _ m3;have m4:=hu.keep _ _ _ m4;have m5:=hu.keep _ _ _ m5;have m6:=hu.keep _ _ _ m6;have zr0:=HW.out.ownGe (g:=w.heap.size+1) (by omega) 0;have zs0:=HW.out.ownGe (g:=w.heap.size+1+1) (by omega) 0;have zr1:=HW.out.ownGe (g:=w.heap.size+1) (by omega) 1;have zs1:=HW.out.ownGe (g:=w.heap.size+1+1) (by omega) 1;have zr2:=HW.out.ownGe (g:=w.heap.size+1) (by omega) 2;have zs2:=HW.out.ownGe (g:=w.heap.size+1+1) (by omega) 2;have zr3:=HW.out.ownGe (g:=w.heap.size+1) (by omega) 3;have zs3:=HW.out.ownGe (g:=w.heap.size+1+1) (by omega) 3;have zr4:=HW.out.ownGe (g:=w.heap.size+1) (by omega) 4;have zs4:=HW.out.ownGe (g:=w.heap.size+1+1) (by omega) 4;have zr5:=HW.out.ownGe (g:=w.heap.size+1) (by omega) 5;have zs5:=HW.out.ownGe (g:=w.heap.size+1+1) (by omega) 5;have zr6:=HW.out.ownGe (g:=w.heap.size+1) (by omega) 6;have zs6:=HW.out.ownGe (g:=w.heap.size+1+1) (by omega) 6;clear hu)
  have hp1_:w.heap.size+1+1<p1:=by omega
  have HSS:Hid (Up w w3∧w3.cell? ⟨p1,0,none⟩=some (.int .i64 sq1)∧w3.cell? ⟨p1,1,none⟩=some (.int .i64 t1)∧w3.cell? ⟨p1,2,none⟩=some (.int .i64 nn1)∧w3.cell? ⟨p1,3,none⟩=some (.int .i64 s1)∧w3.cell? ⟨p1,4,none⟩=some (.int .i64 qq1)∧w3.cell? ⟨p1,5,none⟩=some (.int .i64 lo1)∧w3.cell? ⟨p1,6,none⟩=some (.int .i64 hi1)):=Lib.hid ⟨HW.out,m0,m1,m2,m3,m4,m5,m6⟩
  clear m0 m1 m2 m3 m4 m5 m6
  go_wp2_with fail
  refine wp_region_held_drew (S:=fun w'=>Up w w'∧w'.cell? ⟨p1,0,none⟩=some (.int .i64 sq1)∧w'.cell? ⟨p1,1,none⟩=some (.int .i64 t1)∧w'.cell? ⟨p1,2,none⟩=some (.int .i64 nn1)∧w'.cell? ⟨p1,3,none⟩=some (.int .i64 s1)∧w'.cell? ⟨p1,4,none⟩=some (.int .i64 qq1)∧w'.cell? ⟨p1,5,none⟩=some (.int .i64 lo1)∧w'.cell? ⟨p1,6,none⟩=some (.int .i64 hi1)) (by kernel_rfl) ?hB73 (fun hHeld=>?_)
  case hB73=>(with_reducible exact keepK7 (Lib.hid (Up.refl _).drew) HSS.out)
  refine takeT 0 rfl (by assumption) ?_
  (try simp only [Act.put,stpA,stpB,stpC])
  refine takeT 1 rfl (by assumption) ?_
  (try simp only [Act.put,stpA,stpB,stpC])
  refine wpAnyH_ready (rs:=[2]) (by kernel_rfl) (by simp) ?_
  refine AllReadyH.cons (o:=⟨_,_,_,_,_,_⟩) rfl (fun K hK=>?_) (AllReadyH.nil)
  go_simp
  refine hK.out _ _ ?hB76 (fun hHeld=>?_)
  case hB76=>(with_reducible exact keepK7 (Lib.hid (Up.refl _).drew) (set7K7 HSS.out (by omega) (by omega)))
  clear hK K
  (try simp only [Act.put,stpA,stpB,stpC])
  obtain ⟨wa,hwa⟩:∃ z,z=(((((((w3.setCell ⟨w.heap.size+1,0,none⟩ (.int .i64 sq1)).setCell ⟨w.heap.size+1,1,none⟩ (.int .i64 t1)).setCell ⟨w.heap.size+1,2,none⟩ (.int .i64 nn1)).setCell ⟨w.heap.size+1,3,none⟩ (.int .i64 s1)).setCell ⟨w.heap.size+1,4,none⟩ (.int .i64 qq1)).setCell ⟨w.heap.size+1,5,none⟩ (.int .i64 lo1)).setCell ⟨w.heap.size+1,6,none⟩ (.int .i64 hi1)).drew:=⟨_,rfl⟩
  rw [← hwa]
  rw [← hwa] at hHeld
  obtain ⟨r0_,r1_,r2_,r3_,r4_,r5_,r6_⟩:=cells7 (w:=w3) (p:=w.heap.size+1) (v0:=.int .i64 sq1) (v1:=.int .i64 t1) (v2:=.int .i64 nn1) (v3:=.int .i64 s1) (v4:=.int .i64 qq1) (v5:=.int .i64 lo1) (v6:=.int .i64 hi1) r0 r1 r2 r3 r4 r5 r6
  have r0_:wa.cell? ⟨w.heap.size+1,0,none⟩=some (.int .i64 sq1):=by rw [hwa];exact ((Up.refl _).drew).keep _ _ _ (r0_)
  have r1_:wa.cell? ⟨w.heap.size+1,1,none⟩=some (.int .i64 t1):=by rw [hwa];exact ((Up.refl _).drew).keep _ _ _ (r1_)
  have r2_:wa.cell? ⟨w.heap.size+1,2,none⟩=some (.int .i64 nn1):=by rw [hwa];exact ((Up.refl _).drew).keep _ _ _ (r2_)
  have r3_:wa.cell? ⟨w.heap.size+1,3,none⟩=some (.int .i64 s1):=by rw [hwa];exact ((Up.refl _).drew).keep _ _ _ (r3_)
  have r4_:wa.cell? ⟨w.heap.size+1,4,none⟩=some (.int .i64 qq1):=by rw [hwa];exact ((Up.refl _).drew).keep _ _ _ (r4_)
  have r5_:wa.cell? ⟨w.heap.size+1,5,none⟩=some (.int .i64 lo1):=by rw [hwa];exact ((Up.refl _).drew).keep _ _ _ (r5_)
  have r6_:wa.cell? ⟨w.heap.size+1,6,none⟩=some (.int .i64 hi1):=by rw [hwa];exact ((Up.refl _).drew).keep _ _ _ (r6_)
  have y0_:wa.cell? ⟨w.heap.size+1+1,0,none⟩=some (.int .i64 0):=by rw [hwa];exact ((Up.refl _).drew).keep _ _ _ (far7 (w:=w3) y0 (by omega))
  have y1_:wa.cell? ⟨w.heap.size+1+1,1,none⟩=some (.int .i64 0):=by rw [hwa];exact ((Up.refl _).drew).keep _ _ _ (far7 (w:=w3) y1 (by omega))
  have y2_:wa.cell? ⟨w.heap.size+1+1,2,none⟩=some (.int .i64 0):=by rw [hwa];exact ((Up.refl _).drew).keep _ _ _ (far7 (w:=w3) y2 (by omega))
  have y3_:wa.cell? ⟨w.heap.size+1+1,3,none⟩=some (.int .i64 0):=by rw [hwa];exact ((Up.refl _).drew).keep _ _ _ (far7 (w:=w3) y3 (by omega))
  have y4_:wa.cell? ⟨w.heap.size+1+1,4,none⟩=some (.int .i64 0):=by rw [hwa];exact ((Up.refl _).drew).keep _ _ _ (far7 (w:=w3) y4 (by omega))
  have y5_:wa.cell? ⟨w.heap.size+1+1,5,none⟩=some (.int .i64 0):=by rw [hwa];exact ((Up.refl _).drew).keep _ _ _ (far7 (w:=w3) y5 (by omega))
  have y6_:wa.cell? ⟨w.heap.size+1+1,6,none⟩=some (.int .i64 0):=by rw [hwa];exact ((Up.refl _).drew).keep _ _ _ (far7 (w:=w3) y6 (by omega))
  have HW:=Lib.hid (show Up w wa by rw [hwa];exact (HW.out.set7 (by omega)).drew)
  clear hwa r0 r1 r2 r3 r4 r5 r6 y0 y1 y2 y3 y4 y5 y6
  have r0:=r0_
  have r1:=r1_
  have r2:=r2_
  have r3:=r3_
  have r4:=r4_
  have r5:=r5_
  have r6:=r6_
  have y0:=y0_
  have y1:=y1_
  have y2:=y2_
  have y3:=y3_
  have y4:=y4_
  have y5:=y5_
  have y6:=y6_
  clear r0_ r1_ r2_ r3_ r4_ r5_ r6_ y0_ y1_ y2_ y3_ y4_ y5_ y6_
  have zr0:=HW.out.ownGe (g:=w.heap.size+1) (by omega) 0
  have zr1:=HW.out.ownGe (g:=w.heap.size+1) (by omega) 1
  have zr2:=HW.out.ownGe (g:=w.heap.size+1) (by omega) 2
  have zr3:=HW.out.ownGe (g:=w.heap.size+1) (by omega) 3
  have zr4:=HW.out.ownGe (g:=w.heap.size+1) (by omega) 4
  have zr5:=HW.out.ownGe (g:=w.heap.size+1) (by omega) 5
  have zr6:=HW.out.ownGe (g:=w.heap.size+1) (by omega) 6
  have zs0:=HW.out.ownGe (g:=w.heap.size+1+1) (by omega) 0
  have zs1:=HW.out.ownGe (g:=w.heap.size+1+1) (by omega) 1
  have zs2:=HW.out.ownGe (g:=w.heap.size+1+1) (by omega) 2
  have zs3:=HW.out.ownGe (g:=w.heap.size+1+1) (by omega) 3
  have zs4:=HW.out.ownGe (g:=w.heap.size+1+1) (by omega) 4
  have zs5:=HW.out.ownGe (g:=w.heap.size+1+1) (by omega) 5
  have zs6:=HW.out.ownGe (g:=w.heap.size+1+1) (by omega) 6
  refine wpAnyH_ready (rs:=[3]) (by kernel_rfl) (by simp) ?_
  refine AllReadyH.cons (o:=⟨_,_,_,_,_,_⟩) rfl (fun K hK=>?_) (AllReadyH.nil)
  go_simp
  refine hK.out _ _ ?hB77 (fun hHeld=>?_)
  case hB77=>(with_reducible exact set7K7 hHeld (by omega) (by omega))
  clear hK K
  (try simp only [Act.put,stpA,stpB,stpC])
  obtain ⟨wb,hwb⟩:∃ z,z=((((((wa.setCell ⟨w.heap.size+1+1,0,none⟩ (.int .i64 sq1)).setCell ⟨w.heap.size+1+1,1,none⟩ (.int .i64 t1)).setCell ⟨w.heap.size+1+1,2,none⟩ (.int .i64 nn1)).setCell ⟨w.heap.size+1+1,3,none⟩ (.int .i64 s1)).setCell ⟨w.heap.size+1+1,4,none⟩ (.int .i64 qq1)).setCell ⟨w.heap.size+1+1,5,none⟩ (.int .i64 lo1)).setCell ⟨w.heap.size+1+1,6,none⟩ (.int .i64 hi1):=⟨_,rfl⟩
  rw [← hwb]
  rw [← hwb] at hHeld
  obtain ⟨y0_,y1_,y2_,y3_,y4_,y5_,y6_⟩:=cells7 (w:=wa) (p:=w.heap.size+1+1) (v0:=.int .i64 sq1) (v1:=.int .i64 t1) (v2:=.int .i64 nn1) (v3:=.int .i64 s1) (v4:=.int .i64 qq1) (v5:=.int .i64 lo1) (v6:=.int .i64 hi1) y0 y1 y2 y3 y4 y5 y6
  have y0_:wb.cell? ⟨w.heap.size+1+1,0,none⟩=some (.int .i64 sq1):=by rw [hwb];exact y0_
  have y1_:wb.cell? ⟨w.heap.size+1+1,1,none⟩=some (.int .i64 t1):=by rw [hwb];exact y1_
  have y2_:wb.cell? ⟨w.heap.size+1+1,2,none⟩=some (.int .i64 nn1):=by rw [hwb];exact y2_
  have y3_:wb.cell? ⟨w.heap.size+1+1,3,none⟩=some (.int .i64 s1):=by rw [hwb];exact y3_
  have y4_:wb.cell? ⟨w.heap.size+1+1,4,none⟩=some (.int .i64 qq1):=by rw [hwb];exact y4_
  have y5_:wb.cell? ⟨w.heap.size+1+1,5,none⟩=some (.int .i64 lo1):=by rw [hwb];exact y5_
  have y6_:wb.cell? ⟨w.heap.size+1+1,6,none⟩=some (.int .i64 hi1):=by rw [hwb];exact y6_
  have r0_:wb.cell? ⟨w.heap.size+1,0,none⟩=some (.int .i64 sq1):=by rw [hwb];exact far7 (w:=wa) r0 (by omega)
  have r1_:wb.cell? ⟨w.heap.size+1,1,none⟩=some (.int .i64 t1):=by rw [hwb];exact far7 (w:=wa) r1 (by omega)
  have r2_:wb.cell? ⟨w.heap.size+1,2,none⟩=some (.int .i64 nn1):=by rw [hwb];exact far7 (w:=wa) r2 (by omega)
  have r3_:wb.cell? ⟨w.heap.size+1,3,none⟩=some (.int .i64 s1):=by rw [hwb];exact far7 (w:=wa) r3 (by omega)
  have r4_:wb.cell? ⟨w.heap.size+1,4,none⟩=some (.int .i64 qq1):=by rw [hwb];exact far7 (w:=wa) r4 (by omega)
  have r5_:wb.cell? ⟨w.heap.size+1,5,none⟩=some (.int .i64 lo1):=by rw [hwb];exact far7 (w:=wa) r5 (by omega)
  have r6_:wb.cell? ⟨w.heap.size+1,6,none⟩=some (.int .i64 hi1):=by rw [hwb];exact far7 (w:=wa) r6 (by omega)
  have HW:=Lib.hid (show Up w wb by rw [hwb];exact HW.out.set7 (by omega))
  clear hwb r0 r1 r2 r3 r4 r5 r6 y0 y1 y2 y3 y4 y5 y6
  have r0:=r0_
  have r1:=r1_
  have r2:=r2_
  have r3:=r3_
  have r4:=r4_
  have r5:=r5_
  have r6:=r6_
  have y0:=y0_
  have y1:=y1_
  have y2:=y2_
  have y3:=y3_
  have y4:=y4_
  have y5:=y5_
  have y6:=y6_
  clear r0_ r1_ r2_ r3_ r4_ r5_ r6_ y0_ y1_ y2_ y3_ y4_ y5_ y6_
  have zr0:=HW.out.ownGe (g:=w.heap.size+1) (by omega) 0
  have zr1:=HW.out.ownGe (g:=w.heap.size+1) (by omega) 1
  have zr2:=HW.out.ownGe (g:=w.heap.size+1) (by omega) 2
  have zr3:=HW.out.ownGe (g:=w.heap.size+1) (by omega) 3
  have zr4:=HW.out.ownGe (g:=w.heap.size+1) (by omega) 4
  have zr5:=HW.out.ownGe (g:=w.heap.size+1) (by omega) 5
  have zr6:=HW.out.ownGe (g:=w.heap.size+1) (by omega) 6
  have zs0:=HW.out.ownGe (g:=w.heap.size+1+1) (by omega) 0
  have zs1:=HW.out.ownGe (g:=w.heap.size+1+1) (by omega) 1
  have zs2:=HW.out.ownGe (g:=w.heap.size+1+1) (by omega) 2
  have zs3:=HW.out.ownGe (g:=w.heap.size+1+1) (by omega) 3
  have zs4:=HW.out.ownGe (g:=w.heap.size+1+1) (by omega) 4
  have zs5:=HW.out.ownGe (g:=w.heap.size+1+1) (by omega) 5
  have zs6:=HW.out.ownGe (g:=w.heap.size+1+1) (by omega) 6
  refine wpAnyH_done (by kernel_rfl) ?_ _
  clear hHeld HSS
  go_wp2_with fail
  refine bodyPost_ret (v:=.tuple #[.agg #[.int .i64 sq1,.int .i64 t1,.int .i64 nn1,.int .i64 s1,.int .i64 qq1,.int .i64 lo1,.int .i64 hi1],.agg #[.int .i64 sq1,.int .i64 t1,.int .i64 nn1,.int .i64 s1,.int .i64 qq1,.int .i64 lo1,.int .i64 hi1]]) (by simp [results,Tryz.results36,go_sem,r0,r1,r2,r3,r4,r5,r6,y0,y1,y2,y3,y4,y5,y6]) rfl ⟨rfl,HW.out⟩
set_option maxHeartbeats 4000000 in
set_option maxRecDepth 100000 in
theorem mends_second (g v q c now seq:Int) (n k:Nat) (A:Option Addr) (X:List Mrk) (hn:n≤50000) (h1:1<n) (hl:liveB now v (X.getD 0 mk0).t=false) (hb:bdM (X.getD 0 mk0)) (hq:(X.getD 1 mk0).sq=(X.getD 0 mk0).sq+1) (w:World) (hS:SG cM w A n X) :
    Calls Tryz.prog 36 #[.agg #[.int .i64 g,.int .i64 v,.int .i64 q,.int .i64 c,.int .i64 now,.int .i64 seq,.slice A n k]] w fun e w'=>e=.returned (.tuple #[mg (X.getD 1 mk0),mg (X.getD 1 mk0)])∧Up w w':=by
  have h0:0<n:=by omega
  have HS:=Lib.hid hS
  obtain ⟨b,o,rfl,_⟩:=mrk_at HS.out mk0 h0
  have HD0:=Lib.hid (fun W (h:Up w W)=>mrk_prev (HS.out.up h) h0)
  simp only [Nat.zero_mul,Nat.add_zero] at HD0
  have f20:(0:Int)<n:=by omega
  have t0:((n:Int) == 0)=false:=beq_eq_false_iff_ne.2 (by omega)
  have t0':¬ ((n:Int)=0):=by omega
  have HD1:=Lib.hid (fun W (h:Up w W)=>mrk_prev (HS.out.up h) h1)
  simp only [Nat.one_mul] at HD1
  have f21:(1:Int)<n:=by omega
  generalize X.getD 1 mk0=Mb at *
  generalize X.getD 0 mk0=Ma at *
  obtain ⟨sq1,t1,nn1,s1,qq1,lo1,hi1⟩:=Ma
  obtain ⟨sq2,t2,nn2,s2,qq2,lo2,hi2⟩:=Mb
  simp only at HD0 HD1 hl hq
  have u1:=hb.2.2.2.2.2
  simp only at u1
  obtain ⟨u1,u2⟩:=u1
  have w1_:IntKind.i64.wrap (sq1+1)=sq1+1:=by rw [IntKind.wrap_i64];omega
  have KL:=Lib.hid (isLive13_up g v q c now seq n k (some ⟨b,o,none⟩) sq1 t1 nn1 s1 qq1 lo1 hi1)
  rw [hl] at KL
  clear hl hS hb
  subst hq
  show Calls _ _ _ _ (fun e w'=>e=.returned (.tuple #[.agg #[.int .i64 (sq1+1),.int .i64 t2,.int .i64 nn2,.int .i64 s2,.int .i64 qq2,.int .i64 lo2,.int .i64 hi2],.agg #[.int .i64 (sq1+1),.int .i64 t2,.int .i64 nn2,.int .i64 s2,.int .i64 qq2,.int .i64 lo2,.int .i64 hi2]])∧Up w w')
  go_enter Tryz.func36,Tryz.ntmps36
  go_upto_region 3 with fail
  refine (show ∀ w1:World,w1=_→Code.wp _ _ _ _ w1 from fun w1 hw1=>?_) _ rfl
  have HW:Hid (Up w w1):=Lib.hid (by rw [hw1];exact (((Up.refl w).alloc _ _).alloc _ _).alloc _ _)
  have a0:w1.cell? ⟨w.heap.size,0,none⟩=some (.int .i64 g):=by rw [hw1];simp [go_sem]
  have a1:w1.cell? ⟨w.heap.size,1,none⟩=some (.int .i64 v):=by rw [hw1];simp [go_sem]
  have a2:w1.cell? ⟨w.heap.size,2,none⟩=some (.int .i64 q):=by rw [hw1];simp [go_sem]
  have a3:w1.cell? ⟨w.heap.size,3,none⟩=some (.int .i64 c):=by rw [hw1];simp [go_sem]
  have a4:w1.cell? ⟨w.heap.size,4,none⟩=some (.int .i64 now):=by rw [hw1];simp [go_sem]
  have a5:w1.cell? ⟨w.heap.size,5,none⟩=some (.int .i64 seq):=by rw [hw1];simp [go_sem]
  have a6:w1.cell? ⟨w.heap.size,6,none⟩=some (.slice (some ⟨b,o,none⟩) n k):=by rw [hw1];simp [go_sem]
  have r0:w1.cell? ⟨w.heap.size+1,0,none⟩=some (.int .i64 0):=by rw [hw1];simp [go_sem]
  have r1:w1.cell? ⟨w.heap.size+1,1,none⟩=some (.int .i64 0):=by rw [hw1];simp [go_sem]
  have r2:w1.cell? ⟨w.heap.size+1,2,none⟩=some (.int .i64 0):=by rw [hw1];simp [go_sem]
  have r3:w1.cell? ⟨w.heap.size+1,3,none⟩=some (.int .i64 0):=by rw [hw1];simp [go_sem]
  have r4:w1.cell? ⟨w.heap.size+1,4,none⟩=some (.int .i64 0):=by rw [hw1];simp [go_sem]
  have r5:w1.cell? ⟨w.heap.size+1,5,none⟩=some (.int .i64 0):=by rw [hw1];simp [go_sem]
  have r6:w1.cell? ⟨w.heap.size+1,6,none⟩=some (.int .i64 0):=by rw [hw1];simp [go_sem]
  have y0:w1.cell? ⟨w.heap.size+1+1,0,none⟩=some (.int .i64 0):=by rw [hw1];simp [go_sem]
  have y1:w1.cell? ⟨w.heap.size+1+1,1,none⟩=some (.int .i64 0):=by rw [hw1];simp [go_sem]
  have y2:w1.cell? ⟨w.heap.size+1+1,2,none⟩=some (.int .i64 0):=by rw [hw1];simp [go_sem]
  have y3:w1.cell? ⟨w.heap.size+1+1,3,none⟩=some (.int .i64 0):=by rw [hw1];simp [go_sem]
  have y4:w1.cell? ⟨w.heap.size+1+1,4,none⟩=some (.int .i64 0):=by rw [hw1];simp [go_sem]
  have y5:w1.cell? ⟨w.heap.size+1+1,5,none⟩=some (.int .i64 0):=by rw [hw1];simp [go_sem]
  have y6:w1.cell? ⟨w.heap.size+1+1,6,none⟩=some (.int .i64 0):=by rw [hw1];simp [go_sem]
  have hl1:w.heap.size+1+1<w1.heap.size:=World.block_lt_of_cell? _ _ y0
  clear hw1
  obtain ⟨d0,d1,d2,d3,d4,d5,d6⟩:=HD0.out _ HW.out
  go_upto_region 4 with fail
  refine (show ∀ W2:World,W2=_→Code.wp _ _ _ _ W2 from fun W2 hW2=>?_) _ rfl
  have hv:Up w1 W2:=by rw [hW2];exact (Up.refl _).alloc _ _
  have m0:W2.cell? ⟨w1.heap.size,0,none⟩=some (.int .i64 sq1):=by rw [hW2];simp [go_sem]
  have m1:W2.cell? ⟨w1.heap.size,1,none⟩=some (.int .i64 t1):=by rw [hW2];simp [go_sem]
  have m2:W2.cell? ⟨w1.heap.size,2,none⟩=some (.int .i64 nn1):=by rw [hW2];simp [go_sem]
  have m3:W2.cell? ⟨w1.heap.size,3,none⟩=some (.int .i64 s1):=by rw [hW2];simp [go_sem]
  have m4:W2.cell? ⟨w1.heap.size,4,none⟩=some (.int .i64 qq1):=by rw [hW2];simp [go_sem]
  have m5:W2.cell? ⟨w1.heap.size,5,none⟩=some (.int .i64 lo1):=by rw [hW2];simp [go_sem]
  have m6:W2.cell? ⟨w1.heap.size,6,none⟩=some (.int .i64 hi1):=by rw [hW2];simp [go_sem]
  have a0:=hv.keep _ _ _ a0
  have a1:=hv.keep _ _ _ a1
  have a2:=hv.keep _ _ _ a2
  have a3:=hv.keep _ _ _ a3
  have a4:=hv.keep _ _ _ a4
  have a5:=hv.keep _ _ _ a5
  have a6:=hv.keep _ _ _ a6
  have r0:=hv.keep _ _ _ r0
  have r1:=hv.keep _ _ _ r1
  have r2:=hv.keep _ _ _ r2
  have r3:=hv.keep _ _ _ r3
  have r4:=hv.keep _ _ _ r4
  have r5:=hv.keep _ _ _ r5
  have r6:=hv.keep _ _ _ r6
  have y0:=hv.keep _ _ _ y0
  have y1:=hv.keep _ _ _ y1
  have y2:=hv.keep _ _ _ y2
  have y3:=hv.keep _ _ _ y3
  have y4:=hv.keep _ _ _ y4
  have y5:=hv.keep _ _ _ y5
  have y6:=hv.keep _ _ _ y6
  have HW:=Lib.hid (HW.out.trans hv)
  clear hv hW2 d0 d1 d2 d3 d4 d5 d6
  generalize w1.heap.size=p1 at *
  go_upto_region 6 with (go_at_call 65;(with_reducible refine (KL.out _).mono ?_);rintro e w3 ⟨rfl,hu⟩;have HW:=Lib.hid (HW.out.trans hu);have a6:=hu.keep _ _ _ a6;have r0:=hu.keep _ _ _ r0;have r1:=hu.keep _ _ _ r1;have r2:=hu.keep _ _ _ r2;have r3:=hu.keep _ _ _ r3;have r4:=hu.keep _ _ _ r4;have r5:=hu.keep _ _ _ r5;have r6:=hu.keep _ _ _ r6;have y0:=hu.keep _ _ _ y0;have y1:=hu.keep _ _ _ y1;have y2:=hu.keep _ _ _ y2;have y3:=hu.keep _ _ _ y3;have y4:=hu.keep _ _ _ y4;have y5:=hu.keep _ _ _ y5;have y6:=hu.keep _ _ _ y6;have m0:=hu.keep _ _ _ m0;have m1:=hu.keep _ _ _ m1;have m2:=hu.keep _ _ _ m2;have m3:=hu.keep _ _ _ m3;have m4:=hu.keep _ _ _ m4;have m5:=hu.keep _ _ _ m5;have m6:=hu.keep _ _ _ m6;have zr0:=HW.out.ownGe (g:=w.heap.size+1) (by omega) 0;have zs0:=HW.out.ownGe (g:=w.heap.size+1+1) (by omega) 0;have zr1:=HW.out.ownGe (g:=w.heap.size+1) (by omega) 1;have zs1:=HW.out.ownGe (g:=w.heap.size+1+1) (by omega) 1;have zr2:=HW.out.ownGe (g:=w.heap.size+1) (by omega) 2;have zs2:=HW.out.ownGe (g:=w.heap.size+1+1) (by omega) 2;have zr3:=HW.out.ownGe (g:=w.heap.size+1) (by omega) 3;have zs3:=HW.out.ownGe (g:=w.heap.size+1+1) (by omega) 3;have zr4:=HW.out.ownGe (g:=w.heap.size+1) (by omega) 4;have zs4:=HW.out.ownGe (g:=w.heap.size+1+1) (by omega) 4;have zr5:=HW.out.ownGe (g:=w.heap.size+1) (by omega) 5;have zs5:=HW.out.ownGe (g:=w.heap.size+1+1) (by omega) 5;have zr6:=HW.out.ownGe (g:=w.heap.size+1) (by omega) 6;have zs6:=HW.out.ownGe (g:=w.heap.size+1+1) (by omega) 6;obtain ⟨x0,x1,x2,x3,x4,x5,x6⟩:=HD1.out _ HW.out;clear hu)
  go_upto_region 7 with fail
  refine (show ∀ W5:World,W5=_→Code.wp _ _ _ _ W5 from fun W5 hW5=>?_) _ rfl
  have hv:Up w3 W5:=by rw [hW5];exact (Up.refl _).alloc _ _
  have hl3:w.heap.size+1+1<w3.heap.size:=World.block_lt_of_cell? _ _ y0
  have e0:W5.cell? ⟨w3.heap.size,0,none⟩=some (.int .i64 (sq1+1)):=by rw [hW5];simp [go_sem]
  have e1:W5.cell? ⟨w3.heap.size,1,none⟩=some (.int .i64 t2):=by rw [hW5];simp [go_sem]
  have e2:W5.cell? ⟨w3.heap.size,2,none⟩=some (.int .i64 nn2):=by rw [hW5];simp [go_sem]
  have e3:W5.cell? ⟨w3.heap.size,3,none⟩=some (.int .i64 s2):=by rw [hW5];simp [go_sem]
  have e4:W5.cell? ⟨w3.heap.size,4,none⟩=some (.int .i64 qq2):=by rw [hW5];simp [go_sem]
  have e5:W5.cell? ⟨w3.heap.size,5,none⟩=some (.int .i64 lo2):=by rw [hW5];simp [go_sem]
  have e6:W5.cell? ⟨w3.heap.size,6,none⟩=some (.int .i64 hi2):=by rw [hW5];simp [go_sem]
  have r0:=hv.keep _ _ _ r0
  have r1:=hv.keep _ _ _ r1
  have r2:=hv.keep _ _ _ r2
  have r3:=hv.keep _ _ _ r3
  have r4:=hv.keep _ _ _ r4
  have r5:=hv.keep _ _ _ r5
  have r6:=hv.keep _ _ _ r6
  have y0:=hv.keep _ _ _ y0
  have y1:=hv.keep _ _ _ y1
  have y2:=hv.keep _ _ _ y2
  have y3:=hv.keep _ _ _ y3
  have y4:=hv.keep _ _ _ y4
  have y5:=hv.keep _ _ _ y5
  have y6:=hv.keep _ _ _ y6
  have m0:=hv.keep _ _ _ m0
  have m1:=hv.keep _ _ _ m1
  have m2:=hv.keep _ _ _ m2
  have m3:=hv.keep _ _ _ m3
  have m4:=hv.keep _ _ _ m4
  have m5:=hv.keep _ _ _ m5
  have m6:=hv.keep _ _ _ m6
  have HW:=Lib.hid (HW.out.trans hv)
  clear hv hW5 x0 x1 x2 x3 x4 x5 x6 a6 zr0 zr1 zr2 zr3 zr4 zr5 zr6 zs0 zs1 zs2 zs3 zs4 zs5 zs6
  generalize w3.heap.size=p5 at *
  have zr0:=HW.out.ownGe (g:=w.heap.size+1) (by omega) 0
  have zs0:=HW.out.ownGe (g:=w.heap.size+1+1) (by omega) 0
  have zr1:=HW.out.ownGe (g:=w.heap.size+1) (by omega) 1
  have zs1:=HW.out.ownGe (g:=w.heap.size+1+1) (by omega) 1
  have zr2:=HW.out.ownGe (g:=w.heap.size+1) (by omega) 2
  have zs2:=HW.out.ownGe (g:=w.heap.size+1+1) (by omega) 2
  have zr3:=HW.out.ownGe (g:=w.heap.size+1) (by omega) 3
  have zs3:=HW.out.ownGe (g:=w.heap.size+1+1) (by omega) 3
  have zr4:=HW.out.ownGe (g:=w.heap.size+1) (by omega) 4
  have zs4:=HW.out.ownGe (g:=w.heap.size+1+1) (by omega) 4
  have zr5:=HW.out.ownGe (g:=w.heap.size+1) (by omega) 5
  have zs5:=HW.out.ownGe (g:=w.heap.size+1+1) (by omega) 5
  have zr6:=HW.out.ownGe (g:=w.heap.size+1) (by omega) 6
  have zs6:=HW.out.ownGe (g:=w.heap.size+1+1) (by omega) 6
  go_upto_region 8 with fail
  clear m0 m1 m2 m3 m4 m5 m6
  have HSS:Hid (Up w W5∧W5.cell? ⟨p5,0,none⟩=some (.int .i64 (sq1+1))∧W5.cell? ⟨p5,1,none⟩=some (.int .i64 t2)∧W5.cell? ⟨p5,2,none⟩=some (.int .i64 nn2)∧W5.cell? ⟨p5,3,none⟩=some (.int .i64 s2)∧W5.cell? ⟨p5,4,none⟩=some (.int .i64 qq2)∧W5.cell? ⟨p5,5,none⟩=some (.int .i64 lo2)∧W5.cell? ⟨p5,6,none⟩=some (.int .i64 hi2)):=Lib.hid ⟨HW.out,e0,e1,e2,e3,e4,e5,e6⟩
  clear e0 e1 e2 e3 e4 e5 e6
  go_wp2_with fail
  refine wp_region_held_drew (S:=fun w'=>Up w w'∧w'.cell? ⟨p5,0,none⟩=some (.int .i64 (sq1+1))∧w'.cell? ⟨p5,1,none⟩=some (.int .i64 t2)∧w'.cell? ⟨p5,2,none⟩=some (.int .i64 nn2)∧w'.cell? ⟨p5,3,none⟩=some (.int .i64 s2)∧w'.cell? ⟨p5,4,none⟩=some (.int .i64 qq2)∧w'.cell? ⟨p5,5,none⟩=some (.int .i64 lo2)∧w'.cell? ⟨p5,6,none⟩=some (.int .i64 hi2)) (by kernel_rfl) ?hB78 (fun hHeld=>?_)
  case hB78=>(with_reducible exact keepK7 (Lib.hid (Up.refl _).drew) HSS.out)
  refine takeT 0 rfl (by assumption) ?_
  (try simp only [Act.put,stpA,stpB,stpC])
  refine takeT 1 rfl (by assumption) ?_
  (try simp only [Act.put,stpA,stpB,stpC])
  refine wpAnyH_ready (rs:=[2]) (by kernel_rfl) (by simp) ?_
  refine AllReadyH.cons (o:=⟨_,_,_,_,_,_⟩) rfl (fun K hK=>?_) (AllReadyH.nil)
  go_simp
  refine hK.out _ _ ?hB81 (fun hHeld=>?_)
  case hB81=>(with_reducible exact keepK7 (Lib.hid (Up.refl _).drew) (set7K7 HSS.out (by omega) (by omega)))
  clear hK K
  (try simp only [Act.put,stpA,stpB,stpC])
  obtain ⟨wa,hwa⟩:∃ z,z=(((((((W5.setCell ⟨w.heap.size+1,0,none⟩ (.int .i64 (sq1+1))).setCell ⟨w.heap.size+1,1,none⟩ (.int .i64 t2)).setCell ⟨w.heap.size+1,2,none⟩ (.int .i64 nn2)).setCell ⟨w.heap.size+1,3,none⟩ (.int .i64 s2)).setCell ⟨w.heap.size+1,4,none⟩ (.int .i64 qq2)).setCell ⟨w.heap.size+1,5,none⟩ (.int .i64 lo2)).setCell ⟨w.heap.size+1,6,none⟩ (.int .i64 hi2)).drew:=⟨_,rfl⟩
  rw [← hwa]
  rw [← hwa] at hHeld
  obtain ⟨r0_,r1_,r2_,r3_,r4_,r5_,r6_⟩:=cells7 (w:=W5) (p:=w.heap.size+1) (v0:=.int .i64 (sq1+1)) (v1:=.int .i64 t2) (v2:=.int .i64 nn2) (v3:=.int .i64 s2) (v4:=.int .i64 qq2) (v5:=.int .i64 lo2) (v6:=.int .i64 hi2) r0 r1 r2 r3 r4 r5 r6
  have r0_:wa.cell? ⟨w.heap.size+1,0,none⟩=some (.int .i64 (sq1+1)):=by rw [hwa];exact ((Up.refl _).drew).keep _ _ _ (r0_)
  have r1_:wa.cell? ⟨w.heap.size+1,1,none⟩=some (.int .i64 t2):=by rw [hwa];exact ((Up.refl _).drew).keep _ _ _ (r1_)
  have r2_:wa.cell? ⟨w.heap.size+1,2,none⟩=some (.int .i64 nn2):=by rw [hwa];exact ((Up.refl _).drew).keep _ _ _ (r2_)
  have r3_:wa.cell? ⟨w.heap.size+1,3,none⟩=some (.int .i64 s2):=by rw [hwa];exact ((Up.refl _).drew).keep _ _ _ (r3_)
  have r4_:wa.cell? ⟨w.heap.size+1,4,none⟩=some (.int .i64 qq2):=by rw [hwa];exact ((Up.refl _).drew).keep _ _ _ (r4_)
  have r5_:wa.cell? ⟨w.heap.size+1,5,none⟩=some (.int .i64 lo2):=by rw [hwa];exact ((Up.refl _).drew).keep _ _ _ (r5_)
  have r6_:wa.cell? ⟨w.heap.size+1,6,none⟩=some (.int .i64 hi2):=by rw [hwa];exact ((Up.refl _).drew).keep _ _ _ (r6_)
  have y0_:wa.cell? ⟨w.heap.size+1+1,0,none⟩=some (.int .i64 0):=by rw [hwa];exact ((Up.refl _).drew).keep _ _ _ (far7 (w:=W5) y0 (by omega))
  have y1_:wa.cell? ⟨w.heap.size+1+1,1,none⟩=some (.int .i64 0):=by rw [hwa];exact ((Up.refl _).drew).keep _ _ _ (far7 (w:=W5) y1 (by omega))
  have y2_:wa.cell? ⟨w.heap.size+1+1,2,none⟩=some (.int .i64 0):=by rw [hwa];exact ((Up.refl _).drew).keep _ _ _ (far7 (w:=W5) y2 (by omega))
  have y3_:wa.cell? ⟨w.heap.size+1+1,3,none⟩=some (.int .i64 0):=by rw [hwa];exact ((Up.refl _).drew).keep _ _ _ (far7 (w:=W5) y3 (by omega))
  have y4_:wa.cell? ⟨w.heap.size+1+1,4,none⟩=some (.int .i64 0):=by rw [hwa];exact ((Up.refl _).drew).keep _ _ _ (far7 (w:=W5) y4 (by omega))
  have y5_:wa.cell? ⟨w.heap.size+1+1,5,none⟩=some (.int .i64 0):=by rw [hwa];exact ((Up.refl _).drew).keep _ _ _ (far7 (w:=W5) y5 (by omega))
  have y6_:wa.cell? ⟨w.heap.size+1+1,6,none⟩=some (.int .i64 0):=by rw [hwa];exact ((Up.refl _).drew).keep _ _ _ (far7 (w:=W5) y6 (by omega))
  have HW:=Lib.hid (show Up w wa by rw [hwa];exact (HW.out.set7 (by omega)).drew)
  clear hwa r0 r1 r2 r3 r4 r5 r6 y0 y1 y2 y3 y4 y5 y6
  have r0:=r0_
  have r1:=r1_
  have r2:=r2_
  have r3:=r3_
  have r4:=r4_
  have r5:=r5_
  have r6:=r6_
  have y0:=y0_
  have y1:=y1_
  have y2:=y2_
  have y3:=y3_
  have y4:=y4_
  have y5:=y5_
  have y6:=y6_
  clear r0_ r1_ r2_ r3_ r4_ r5_ r6_ y0_ y1_ y2_ y3_ y4_ y5_ y6_
  have zr0:=HW.out.ownGe (g:=w.heap.size+1) (by omega) 0
  have zr1:=HW.out.ownGe (g:=w.heap.size+1) (by omega) 1
  have zr2:=HW.out.ownGe (g:=w.heap.size+1) (by omega) 2
  have zr3:=HW.out.ownGe (g:=w.heap.size+1) (by omega) 3
  have zr4:=HW.out.ownGe (g:=w.heap.size+1) (by omega) 4
  have zr5:=HW.out.ownGe (g:=w.heap.size+1) (by omega) 5
  have zr6:=HW.out.ownGe (g:=w.heap.size+1) (by omega) 6
  have zs0:=HW.out.ownGe (g:=w.heap.size+1+1) (by omega) 0
  have zs1:=HW.out.ownGe (g:=w.heap.size+1+1) (by omega) 1
  have zs2:=HW.out.ownGe (g:=w.heap.size+1+1) (by omega) 2
  have zs3:=HW.out.ownGe (g:=w.heap.size+1+1) (by omega) 3
  have zs4:=HW.out.ownGe (g:=w.heap.size+1+1) (by omega) 4
  have zs5:=HW.out.ownGe (g:=w.heap.size+1+1) (by omega) 5
  have zs6:=HW.out.ownGe (g:=w.heap.size+1+1) (by omega) 6
  refine wpAnyH_ready (rs:=[3]) (by kernel_rfl) (by simp) ?_
  refine AllReadyH.cons (o:=⟨_,_,_,_,_,_⟩) rfl (fun K hK=>?_) (AllReadyH.nil)
  go_simp
  refine hK.out _ _ ?hB82 (fun hHeld=>?_)
  case hB82=>(with_reducible exact set7K7 hHeld (by omega) (by omega))
  clear hK K
  (try simp only [Act.put,stpA,stpB,stpC])
  obtain ⟨wb,hwb⟩:∃ z,z=((((((wa.setCell ⟨w.heap.size+1+1,0,none⟩ (.int .i64 (sq1+1))).setCell ⟨w.heap.size+1+1,1,none⟩ (.int .i64 t2)).setCell ⟨w.heap.size+1+1,2,none⟩ (.int .i64 nn2)).setCell ⟨w.heap.size+1+1,3,none⟩ (.int .i64 s2)).setCell ⟨w.heap.size+1+1,4,none⟩ (.int .i64 qq2)).setCell ⟨w.heap.size+1+1,5,none⟩ (.int .i64 lo2)).setCell ⟨w.heap.size+1+1,6,none⟩ (.int .i64 hi2):=⟨_,rfl⟩
  rw [← hwb]
  rw [← hwb] at hHeld
  obtain ⟨y0_,y1_,y2_,y3_,y4_,y5_,y6_⟩:=cells7 (w:=wa) (p:=w.heap.size+1+1) (v0:=.int .i64 (sq1+1)) (v1:=.int .i64 t2) (v2:=.int .i64 nn2) (v3:=.int .i64 s2) (v4:=.int .i64 qq2) (v5:=.int .i64 lo2) (v6:=.int .i64 hi2) y0 y1 y2 y3 y4 y5 y6
  have y0_:wb.cell? ⟨w.heap.size+1+1,0,none⟩=some (.int .i64 (sq1+1)):=by rw [hwb];exact y0_
  have y1_:wb.cell? ⟨w.heap.size+1+1,1,none⟩=some (.int .i64 t2):=by rw [hwb];exact y1_
  have y2_:wb.cell? ⟨w.heap.size+1+1,2,none⟩=some (.int .i64 nn2):=by rw [hwb];exact y2_
  have y3_:wb.cell? ⟨w.heap.size+1+1,3,none⟩=some (.int .i64 s2):=by rw [hwb];exact y3_
  have y4_:wb.cell? ⟨w.heap.size+1+1,4,none⟩=some (.int .i64 qq2):=by rw [hwb];exact y4_
  have y5_:wb.cell? ⟨w.heap.size+1+1,5,none⟩=some (.int .i64 lo2):=by rw [hwb];exact y5_
  have y6_:wb.cell? ⟨w.heap.size+1+1,6,none⟩=some (.int .i64 hi2):=by rw [hwb];exact y6_
  have r0_:wb.cell? ⟨w.heap.size+1,0,none⟩=some (.int .i64 (sq1+1)):=by rw [hwb];exact far7 (w:=wa) r0 (by omega)
  have r1_:wb.cell? ⟨w.heap.size+1,1,none⟩=some (.int .i64 t2):=by rw [hwb];exact far7 (w:=wa) r1 (by omega)
  have r2_:wb.cell? ⟨w.heap.size+1,2,none⟩=some (.int .i64 nn2):=by rw [hwb];exact far7 (w:=wa) r2 (by omega)
  have r3_:wb.cell? ⟨w.heap.size+1,3,none⟩=some (.int .i64 s2):=by rw [hwb];exact far7 (w:=wa) r3 (by omega)
  have r4_:wb.cell? ⟨w.heap.size+1,4,none⟩=some (.int .i64 qq2):=by rw [hwb];exact far7 (w:=wa) r4 (by omega)
  have r5_:wb.cell? ⟨w.heap.size+1,5,none⟩=some (.int .i64 lo2):=by rw [hwb];exact far7 (w:=wa) r5 (by omega)
  have r6_:wb.cell? ⟨w.heap.size+1,6,none⟩=some (.int .i64 hi2):=by rw [hwb];exact far7 (w:=wa) r6 (by omega)
  have HW:=Lib.hid (show Up w wb by rw [hwb];exact HW.out.set7 (by omega))
  clear hwb r0 r1 r2 r3 r4 r5 r6 y0 y1 y2 y3 y4 y5 y6
  have r0:=r0_
  have r1:=r1_
  have r2:=r2_
  have r3:=r3_
  have r4:=r4_
  have r5:=r5_
  have r6:=r6_
  have y0:=y0_
  have y1:=y1_
  have y2:=y2_
  have y3:=y3_
  have y4:=y4_
  have y5:=y5_
  have y6:=y6_
  clear r0_ r1_ r2_ r3_ r4_ r5_ r6_ y0_ y1_ y2_ y3_ y4_ y5_ y6_
  have zr0:=HW.out.ownGe (g:=w.heap.size+1) (by omega) 0
  have zr1:=HW.out.ownGe (g:=w.heap.size+1) (by omega) 1
  have zr2:=HW.out.ownGe (g:=w.heap.size+1) (by omega) 2
  have zr3:=HW.out.ownGe (g:=w.heap.size+1) (by omega) 3
  have zr4:=HW.out.ownGe (g:=w.heap.size+1) (by omega) 4
  have zr5:=HW.out.ownGe (g:=w.heap.size+1) (by omega) 5
  have zr6:=HW.out.ownGe (g:=w.heap.size+1) (by omega) 6
  have zs0:=HW.out.ownGe (g:=w.heap.size+1+1) (by omega) 0
  have zs1:=HW.out.ownGe (g:=w.heap.size+1+1) (by omega) 1
  have zs2:=HW.out.ownGe (g:=w.heap.size+1+1) (by omega) 2
  have zs3:=HW.out.ownGe (g:=w.heap.size+1+1) (by omega) 3
  have zs4:=HW.out.ownGe (g:=w.heap.size+1+1) (by omega) 4
  have zs5:=HW.out.ownGe (g:=w.heap.size+1+1) (by omega) 5
  have zs6:=HW.out.ownGe (g:=w.heap.size+1+1) (by omega) 6
  refine wpAnyH_done (by kernel_rfl) ?_ _
  clear hHeld HSS
  go_wp2_with fail
  refine bodyPost_ret (v:=.tuple #[.agg #[.int .i64 (sq1+1),.int .i64 t2,.int .i64 nn2,.int .i64 s2,.int .i64 qq2,.int .i64 lo2,.int .i64 hi2],.agg #[.int .i64 (sq1+1),.int .i64 t2,.int .i64 nn2,.int .i64 s2,.int .i64 qq2,.int .i64 lo2,.int .i64 hi2]]) (by simp [results,Tryz.results36,go_sem,r0,r1,r2,r3,r4,r5,r6,y0,y1,y2,y3,y4,y5,y6]) rfl ⟨rfl,HW.out⟩
set_option maxHeartbeats 4000000 in
set_option maxRecDepth 100000 in
theorem mends_both (g v q c now seq:Int) (n k:Nat) (A:Option Addr) (X:List Mrk) (hn:n≤50000) (h1:1<n) (hl:liveB now v (X.getD 0 mk0).t=false) (hb:bdM (X.getD 0 mk0)) (hq:¬ (X.getD 1 mk0).sq=(X.getD 0 mk0).sq+1) (w:World) (hS:SG cM w A n X) :
    Calls Tryz.prog 36 #[.agg #[.int .i64 g,.int .i64 v,.int .i64 q,.int .i64 c,.int .i64 now,.int .i64 seq,.slice A n k]] w fun e w'=>e=.returned (.tuple #[mg (X.getD 1 mk0),mg (X.getD 0 mk0)])∧Up w w':=by
  have h0:0<n:=by omega
  have HS:=Lib.hid hS
  obtain ⟨b,o,rfl,_⟩:=mrk_at HS.out mk0 h0
  have HD0:=Lib.hid (fun W (h:Up w W)=>mrk_prev (HS.out.up h) h0)
  simp only [Nat.zero_mul,Nat.add_zero] at HD0
  have f20:(0:Int)<n:=by omega
  have t0:((n:Int) == 0)=false:=beq_eq_false_iff_ne.2 (by omega)
  have t0':¬ ((n:Int)=0):=by omega
  have HD1:=Lib.hid (fun W (h:Up w W)=>mrk_prev (HS.out.up h) h1)
  simp only [Nat.one_mul] at HD1
  have f21:(1:Int)<n:=by omega
  generalize X.getD 1 mk0=Mb at *
  generalize X.getD 0 mk0=Ma at *
  obtain ⟨sq1,t1,nn1,s1,qq1,lo1,hi1⟩:=Ma
  obtain ⟨sq2,t2,nn2,s2,qq2,lo2,hi2⟩:=Mb
  simp only at HD0 HD1 hl hq
  have u1:=hb.2.2.2.2.2
  simp only at u1
  obtain ⟨u1,u2⟩:=u1
  have w1_:IntKind.i64.wrap (sq1+1)=sq1+1:=by rw [IntKind.wrap_i64];omega
  have KL:=Lib.hid (isLive13_up g v q c now seq n k (some ⟨b,o,none⟩) sq1 t1 nn1 s1 qq1 lo1 hi1)
  rw [hl] at KL
  clear hl hS hb
  have hq1:(sq2 == sq1+1)=false:=beq_eq_false_iff_ne.2 hq
  show Calls _ _ _ _ (fun e w'=>e=.returned (.tuple #[.agg #[.int .i64 sq2,.int .i64 t2,.int .i64 nn2,.int .i64 s2,.int .i64 qq2,.int .i64 lo2,.int .i64 hi2],.agg #[.int .i64 sq1,.int .i64 t1,.int .i64 nn1,.int .i64 s1,.int .i64 qq1,.int .i64 lo1,.int .i64 hi1]])∧Up w w')
  go_enter Tryz.func36,Tryz.ntmps36
  go_upto_region 3 with fail
  refine (show ∀ w1:World,w1=_→Code.wp _ _ _ _ w1 from fun w1 hw1=>?_) _ rfl
  have HW:Hid (Up w w1):=Lib.hid (by rw [hw1];exact (((Up.refl w).alloc _ _).alloc _ _).alloc _ _)
  have a0:w1.cell? ⟨w.heap.size,0,none⟩=some (.int .i64 g):=by rw [hw1];simp [go_sem]
  have a1:w1.cell? ⟨w.heap.size,1,none⟩=some (.int .i64 v):=by rw [hw1];simp [go_sem]
  have a2:w1.cell? ⟨w.heap.size,2,none⟩=some (.int .i64 q):=by rw [hw1];simp [go_sem]
  have a3:w1.cell? ⟨w.heap.size,3,none⟩=some (.int .i64 c):=by rw [hw1];simp [go_sem]
  have a4:w1.cell? ⟨w.heap.size,4,none⟩=some (.int .i64 now):=by rw [hw1];simp [go_sem]
  have a5:w1.cell? ⟨w.heap.size,5,none⟩=some (.int .i64 seq):=by rw [hw1];simp [go_sem]
  have a6:w1.cell? ⟨w.heap.size,6,none⟩=some (.slice (some ⟨b,o,none⟩) n k):=by rw [hw1];simp [go_sem]
  have r0:w1.cell? ⟨w.heap.size+1,0,none⟩=some (.int .i64 0):=by rw [hw1];simp [go_sem]
  have r1:w1.cell? ⟨w.heap.size+1,1,none⟩=some (.int .i64 0):=by rw [hw1];simp [go_sem]
  have r2:w1.cell? ⟨w.heap.size+1,2,none⟩=some (.int .i64 0):=by rw [hw1];simp [go_sem]
  have r3:w1.cell? ⟨w.heap.size+1,3,none⟩=some (.int .i64 0):=by rw [hw1];simp [go_sem]
  have r4:w1.cell? ⟨w.heap.size+1,4,none⟩=some (.int .i64 0):=by rw [hw1];simp [go_sem]
  have r5:w1.cell? ⟨w.heap.size+1,5,none⟩=some (.int .i64 0):=by rw [hw1];simp [go_sem]
  have r6:w1.cell? ⟨w.heap.size+1,6,none⟩=some (.int .i64 0):=by rw [hw1];simp [go_sem]
  have y0:w1.cell? ⟨w.heap.size+1+1,0,none⟩=some (.int .i64 0):=by rw [hw1];simp [go_sem]
  have y1:w1.cell? ⟨w.heap.size+1+1,1,none⟩=some (.int .i64 0):=by rw [hw1];simp [go_sem]
  have y2:w1.cell? ⟨w.heap.size+1+1,2,none⟩=some (.int .i64 0):=by rw [hw1];simp [go_sem]
  have y3:w1.cell? ⟨w.heap.size+1+1,3,none⟩=some (.int .i64 0):=by rw [hw1];simp [go_sem]
  have y4:w1.cell? ⟨w.heap.size+1+1,4,none⟩=some (.int .i64 0):=by rw [hw1];simp [go_sem]
  have y5:w1.cell? ⟨w.heap.size+1+1,5,none⟩=some (.int .i64 0):=by rw [hw1];simp [go_sem]
  have y6:w1.cell? ⟨w.heap.size+1+1,6,none⟩=some (.int .i64 0):=by rw [hw1];simp [go_sem]
  have hl1:w.heap.size+1+1<w1.heap.size:=World.block_lt_of_cell? _ _ y0
  clear hw1
  obtain ⟨d0,d1,d2,d3,d4,d5,d6⟩:=HD0.out _ HW.out
  go_upto_region 4 with fail
  refine (show ∀ W2:World,W2=_→Code.wp _ _ _ _ W2 from fun W2 hW2=>?_) _ rfl
  have hv:Up w1 W2:=by rw [hW2];exact (Up.refl _).alloc _ _
  have m0:W2.cell? ⟨w1.heap.size,0,none⟩=some (.int .i64 sq1):=by rw [hW2];simp [go_sem]
  have m1:W2.cell? ⟨w1.heap.size,1,none⟩=some (.int .i64 t1):=by rw [hW2];simp [go_sem]
  have m2:W2.cell? ⟨w1.heap.size,2,none⟩=some (.int .i64 nn1):=by rw [hW2];simp [go_sem]
  have m3:W2.cell? ⟨w1.heap.size,3,none⟩=some (.int .i64 s1):=by rw [hW2];simp [go_sem]
  have m4:W2.cell? ⟨w1.heap.size,4,none⟩=some (.int .i64 qq1):=by rw [hW2];simp [go_sem]
  have m5:W2.cell? ⟨w1.heap.size,5,none⟩=some (.int .i64 lo1):=by rw [hW2];simp [go_sem]
  have m6:W2.cell? ⟨w1.heap.size,6,none⟩=some (.int .i64 hi1):=by rw [hW2];simp [go_sem]
  have a0:=hv.keep _ _ _ a0
  have a1:=hv.keep _ _ _ a1
  have a2:=hv.keep _ _ _ a2
  have a3:=hv.keep _ _ _ a3
  have a4:=hv.keep _ _ _ a4
  have a5:=hv.keep _ _ _ a5
  have a6:=hv.keep _ _ _ a6
  have r0:=hv.keep _ _ _ r0
  have r1:=hv.keep _ _ _ r1
  have r2:=hv.keep _ _ _ r2
  have r3:=hv.keep _ _ _ r3
  have r4:=hv.keep _ _ _ r4
  have r5:=hv.keep _ _ _ r5
  have r6:=hv.keep _ _ _ r6
  have y0:=hv.keep _ _ _ y0
  have y1:=hv.keep _ _ _ y1
  have y2:=hv.keep _ _ _ y2
  have y3:=hv.keep _ _ _ y3
  have y4:=hv.keep _ _ _ y4
  have y5:=hv.keep _ _ _ y5
  have y6:=hv.keep _ _ _ y6
  have HW:=Lib.hid (HW.out.trans hv)
  clear hv hW2 d0 d1 d2 d3 d4 d5 d6
  generalize w1.heap.size=p1 at *
  go_upto_region 6 with (go_at_call 65;(with_reducible refine (KL.out _).mono ?_);rintro e w3 ⟨rfl,hu⟩;have HW:=Lib.hid (HW.out.trans hu);have a6:=hu.keep _ _ _ a6;have r0:=hu.keep _ _ _ r0;have r1:=hu.keep _ _ _ r1;have r2:=hu.keep _ _ _ r2;have r3:=hu.keep _ _ _ r3;have r4:=hu.keep _ _ _ r4;have r5:=hu.keep _ _ _ r5;have r6:=hu.keep _ _ _ r6;have y0:=hu.keep _ _ _ y0;have y1:=hu.keep _ _ _ y1;have y2:=hu.keep _ _ _ y2;have y3:=hu.keep _ _ _ y3;have y4:=hu.keep _ _ _ y4;have y5:=hu.keep _ _ _ y5;have y6:=hu.keep _ _ _ y6;have m0:=hu.keep _ _ _ m0;have m1:=hu.keep _ _ _ m1;have m2:=hu.keep _ _ _ m2;have m3:=hu.keep _ _ _ m3;have m4:=hu.keep _ _ _ m4;have m5:=hu.keep _ _ _ m5;have m6:=hu.keep _ _ _ m6;have zr0:=HW.out.ownGe (g:=w.heap.size+1) (by omega) 0;have zs0:=HW.out.ownGe (g:=w.heap.size+1+1) (by omega) 0;have zr1:=HW.out.ownGe (g:=w.heap.size+1) (by omega) 1;have zs1:=HW.out.ownGe (g:=w.heap.size+1+1) (by omega) 1;have zr2:=HW.out.ownGe (g:=w.heap.size+1) (by omega) 2;have zs2:=HW.out.ownGe (g:=w.heap.size+1+1) (by omega) 2;have zr3:=HW.out.ownGe (g:=w.heap.size+1) (by omega) 3;have zs3:=HW.out.ownGe (g:=w.heap.size+1+1) (by omega) 3;have zr4:=HW.out.ownGe (g:=w.heap.size+1) (by omega) 4;have zs4:=HW.out.ownGe (g:=w.heap.size+1+1) (by omega) 4;have zr5:=HW.out.ownGe (g:=w.heap.size+1) (by omega) 5;have zs5:=HW.out.ownGe (g:=w.heap.size+1+1) (by omega) 5;have zr6:=HW.out.ownGe (g:=w.heap.size+1) (by omega) 6;have zs6:=HW.out.ownGe (g:=w.heap.size+1+1) (by omega) 6;obtain ⟨x0,x1,x2,x3,x4,x5,x6⟩:=HD1.out _ HW.out;clear hu)
  go_upto_region 7 with fail
  refine (show ∀ W5:World,W5=_→Code.wp _ _ _ _ W5 from fun W5 hW5=>?_) _ rfl
  have hv:Up w3 W5:=by rw [hW5];exact (Up.refl _).alloc _ _
  have hl3:w.heap.size+1+1<w3.heap.size:=World.block_lt_of_cell? _ _ y0
  have e0:W5.cell? ⟨w3.heap.size,0,none⟩=some (.int .i64 sq2):=by rw [hW5];simp [go_sem]
  have e1:W5.cell? ⟨w3.heap.size,1,none⟩=some (.int .i64 t2):=by rw [hW5];simp [go_sem]
  have e2:W5.cell? ⟨w3.heap.size,2,none⟩=some (.int .i64 nn2):=by rw [hW5];simp [go_sem]
  have e3:W5.cell? ⟨w3.heap.size,3,none⟩=some (.int .i64 s2):=by rw [hW5];simp [go_sem]
  have e4:W5.cell? ⟨w3.heap.size,4,none⟩=some (.int .i64 qq2):=by rw [hW5];simp [go_sem]
  have e5:W5.cell? ⟨w3.heap.size,5,none⟩=some (.int .i64 lo2):=by rw [hW5];simp [go_sem]
  have e6:W5.cell? ⟨w3.heap.size,6,none⟩=some (.int .i64 hi2):=by rw [hW5];simp [go_sem]
  have r0:=hv.keep _ _ _ r0
  have r1:=hv.keep _ _ _ r1
  have r2:=hv.keep _ _ _ r2
  have r3:=hv.keep _ _ _ r3
  have r4:=hv.keep _ _ _ r4
  have r5:=hv.keep _ _ _ r5
  have r6:=hv.keep _ _ _ r6
  have y0:=hv.keep _ _ _ y0
  have y1:=hv.keep _ _ _ y1
  have y2:=hv.keep _ _ _ y2
  have y3:=hv.keep _ _ _ y3
  have y4:=hv.keep _ _ _ y4
  have y5:=hv.keep _ _ _ y5
  have y6:=hv.keep _ _ _ y6
  have m0:=hv.keep _ _ _ m0
  have m1:=hv.keep _ _ _ m1
  have m2:=hv.keep _ _ _ m2
  have m3:=hv.keep _ _ _ m3
  have m4:=hv.keep _ _ _ m4
  have m5:=hv.keep _ _ _ m5
  have m6:=hv.keep _ _ _ m6
  have HW:=Lib.hid (HW.out.trans hv)
  clear hv hW5 x0 x1 x2 x3 x4 x5 x6 a6 zr0 zr1 zr2 zr3 zr4 zr5 zr6 zs0 zs1 zs2 zs3 zs4 zs5 zs6
  generalize w3.heap.size=p5 at *
  have zr0:=HW.out.ownGe (g:=w.heap.size+1) (by omega) 0
  have zs0:=HW.out.ownGe (g:=w.heap.size+1+1) (by omega) 0
  have zr1:=HW.out.ownGe (g:=w.heap.size+1) (by omega) 1
  have zs1:=HW.out.ownGe (g:=w.heap.size+1+1) (by omega) 1
  have zr2:=HW.out.ownGe (g:=w.heap.size+1) (by omega) 2
  have zs2:=HW.out.ownGe (g:=w.heap.size+1+1) (by omega) 2
  have zr3:=HW.out.ownGe (g:=w.heap.size+1) (by omega) 3
  have zs3:=HW.out.ownGe (g:=w.heap.size+1+1) (by omega) 3
  have zr4:=HW.out.ownGe (g:=w.heap.size+1) (by omega) 4
  have zs4:=HW.out.ownGe (g:=w.heap.size+1+1) (by omega) 4
  have zr5:=HW.out.ownGe (g:=w.heap.size+1) (by omega) 5
  have zs5:=HW.out.ownGe (g:=w.heap.size+1+1) (by omega) 5
  have zr6:=HW.out.ownGe (g:=w.heap.size+1) (by omega) 6
  have zs6:=HW.out.ownGe (g:=w.heap.size+1+1) (by omega) 6
  go_upto_region 9 with fail
  have HSS:Hid (Up w W5∧W5.cell? ⟨p5,0,none⟩=some (.int .i64 sq2)∧W5.cell? ⟨p5,1,none⟩=some (.int .i64 t2)∧W5.cell? ⟨p5,2,none⟩=some (.int .i64 nn2)∧W5.cell? ⟨p5,3,none⟩=some (.int .i64 s2)∧W5.cell? ⟨p5,4,none⟩=some (.int .i64 qq2)∧W5.cell? ⟨p5,5,none⟩=some (.int .i64 lo2)∧W5.cell? ⟨p5,6,none⟩=some (.int .i64 hi2)∧W5.cell? ⟨p1,0,none⟩=some (.int .i64 sq1)∧W5.cell? ⟨p1,1,none⟩=some (.int .i64 t1)∧W5.cell? ⟨p1,2,none⟩=some (.int .i64 nn1)∧W5.cell? ⟨p1,3,none⟩=some (.int .i64 s1)∧W5.cell? ⟨p1,4,none⟩=some (.int .i64 qq1)∧W5.cell? ⟨p1,5,none⟩=some (.int .i64 lo1)∧W5.cell? ⟨p1,6,none⟩=some (.int .i64 hi1)):=Lib.hid ⟨HW.out,e0,e1,e2,e3,e4,e5,e6,m0,m1,m2,m3,m4,m5,m6⟩
  clear e0 e1 e2 e3 e4 e5 e6 m0 m1 m2 m3 m4 m5 m6
  go_wp2_with fail
  refine wp_region_held_drew (S:=fun w'=>Up w w'∧w'.cell? ⟨p5,0,none⟩=some (.int .i64 sq2)∧w'.cell? ⟨p5,1,none⟩=some (.int .i64 t2)∧w'.cell? ⟨p5,2,none⟩=some (.int .i64 nn2)∧w'.cell? ⟨p5,3,none⟩=some (.int .i64 s2)∧w'.cell? ⟨p5,4,none⟩=some (.int .i64 qq2)∧w'.cell? ⟨p5,5,none⟩=some (.int .i64 lo2)∧w'.cell? ⟨p5,6,none⟩=some (.int .i64 hi2)∧w'.cell? ⟨p1,0,none⟩=some (.int .i64 sq1)∧w'.cell? ⟨p1,1,none⟩=some (.int .i64 t1)∧w'.cell? ⟨p1,2,none⟩=some (.int .i64 nn1)∧w'.cell? ⟨p1,3,none⟩=some (.int .i64 s1)∧w'.cell? ⟨p1,4,none⟩=some (.int .i64 qq1)∧w'.cell? ⟨p1,5,none⟩=some (.int .i64 lo1)∧w'.cell? ⟨p1,6,none⟩=some (.int .i64 hi1)) (by kernel_rfl) ?hB83 (fun hHeld=>?_)
  case hB83=>(with_reducible exact keepK14 (Lib.hid (Up.refl _).drew) HSS.out)
  refine takeT 0 rfl (by assumption) ?_
  (try simp only [Act.put,stpA,stpB,stpC])
  refine takeT 1 rfl (by assumption) ?_
  (try simp only [Act.put,stpA,stpB,stpC])
  refine wpAnyH_ready (rs:=[2]) (by kernel_rfl) (by simp) ?_
  refine AllReadyH.cons (o:=⟨_,_,_,_,_,_⟩) rfl (fun K hK=>?_) (AllReadyH.nil)
  go_simp
  refine hK.out _ _ ?hB86 (fun hHeld=>?_)
  case hB86=>(with_reducible exact keepK14 (Lib.hid (Up.refl _).drew) (set7K14 HSS.out (by omega) (by omega) (by omega)))
  clear hK K
  (try simp only [Act.put,stpA,stpB,stpC])
  obtain ⟨wa,hwa⟩:∃ z,z=(((((((W5.setCell ⟨w.heap.size+1,0,none⟩ (.int .i64 sq2)).setCell ⟨w.heap.size+1,1,none⟩ (.int .i64 t2)).setCell ⟨w.heap.size+1,2,none⟩ (.int .i64 nn2)).setCell ⟨w.heap.size+1,3,none⟩ (.int .i64 s2)).setCell ⟨w.heap.size+1,4,none⟩ (.int .i64 qq2)).setCell ⟨w.heap.size+1,5,none⟩ (.int .i64 lo2)).setCell ⟨w.heap.size+1,6,none⟩ (.int .i64 hi2)).drew:=⟨_,rfl⟩
  rw [← hwa]
  rw [← hwa] at hHeld
  obtain ⟨r0_,r1_,r2_,r3_,r4_,r5_,r6_⟩:=cells7 (w:=W5) (p:=w.heap.size+1) (v0:=.int .i64 sq2) (v1:=.int .i64 t2) (v2:=.int .i64 nn2) (v3:=.int .i64 s2) (v4:=.int .i64 qq2) (v5:=.int .i64 lo2) (v6:=.int .i64 hi2) r0 r1 r2 r3 r4 r5 r6
  have r0_:wa.cell? ⟨w.heap.size+1,0,none⟩=some (.int .i64 sq2):=by rw [hwa];exact ((Up.refl _).drew).keep _ _ _ (r0_)
  have r1_:wa.cell? ⟨w.heap.size+1,1,none⟩=some (.int .i64 t2):=by rw [hwa];exact ((Up.refl _).drew).keep _ _ _ (r1_)
  have r2_:wa.cell? ⟨w.heap.size+1,2,none⟩=some (.int .i64 nn2):=by rw [hwa];exact ((Up.refl _).drew).keep _ _ _ (r2_)
  have r3_:wa.cell? ⟨w.heap.size+1,3,none⟩=some (.int .i64 s2):=by rw [hwa];exact ((Up.refl _).drew).keep _ _ _ (r3_)
  have r4_:wa.cell? ⟨w.heap.size+1,4,none⟩=some (.int .i64 qq2):=by rw [hwa];exact ((Up.refl _).drew).keep _ _ _ (r4_)
  have r5_:wa.cell? ⟨w.heap.size+1,5,none⟩=some (.int .i64 lo2):=by rw [hwa];exact ((Up.refl _).drew).keep _ _ _ (r5_)
  have r6_:wa.cell? ⟨w.heap.size+1,6,none⟩=some (.int .i64 hi2):=by rw [hwa];exact ((Up.refl _).drew).keep _ _ _ (r6_)
  have y0_:wa.cell? ⟨w.heap.size+1+1,0,none⟩=some (.int .i64 0):=by rw [hwa];exact ((Up.refl _).drew).keep _ _ _ (far7 (w:=W5) y0 (by omega))
  have y1_:wa.cell? ⟨w.heap.size+1+1,1,none⟩=some (.int .i64 0):=by rw [hwa];exact ((Up.refl _).drew).keep _ _ _ (far7 (w:=W5) y1 (by omega))
  have y2_:wa.cell? ⟨w.heap.size+1+1,2,none⟩=some (.int .i64 0):=by rw [hwa];exact ((Up.refl _).drew).keep _ _ _ (far7 (w:=W5) y2 (by omega))
  have y3_:wa.cell? ⟨w.heap.size+1+1,3,none⟩=some (.int .i64 0):=by rw [hwa];exact ((Up.refl _).drew).keep _ _ _ (far7 (w:=W5) y3 (by omega))
  have y4_:wa.cell? ⟨w.heap.size+1+1,4,none⟩=some (.int .i64 0):=by rw [hwa];exact ((Up.refl _).drew).keep _ _ _ (far7 (w:=W5) y4 (by omega))
  have y5_:wa.cell? ⟨w.heap.size+1+1,5,none⟩=some (.int .i64 0):=by rw [hwa];exact ((Up.refl _).drew).keep _ _ _ (far7 (w:=W5) y5 (by omega))
  have y6_:wa.cell? ⟨w.heap.size+1+1,6,none⟩=some (.int .i64 0):=by rw [hwa];exact ((Up.refl _).drew).keep _ _ _ (far7 (w:=W5) y6 (by omega))
  have HW:=Lib.hid (show Up w wa by rw [hwa];exact (HW.out.set7 (by omega)).drew)
  clear hwa r0 r1 r2 r3 r4 r5 r6 y0 y1 y2 y3 y4 y5 y6
  have r0:=r0_
  have r1:=r1_
  have r2:=r2_
  have r3:=r3_
  have r4:=r4_
  have r5:=r5_
  have r6:=r6_
  have y0:=y0_
  have y1:=y1_
  have y2:=y2_
  have y3:=y3_
  have y4:=y4_
  have y5:=y5_
  have y6:=y6_
  clear r0_ r1_ r2_ r3_ r4_ r5_ r6_ y0_ y1_ y2_ y3_ y4_ y5_ y6_
  have zr0:=HW.out.ownGe (g:=w.heap.size+1) (by omega) 0
  have zr1:=HW.out.ownGe (g:=w.heap.size+1) (by omega) 1
  have zr2:=HW.out.ownGe (g:=w.heap.size+1) (by omega) 2
  have zr3:=HW.out.ownGe (g:=w.heap.size+1) (by omega) 3
  have zr4:=HW.out.ownGe (g:=w.heap.size+1) (by omega) 4
  have zr5:=HW.out.ownGe (g:=w.heap.size+1) (by omega) 5
  have zr6:=HW.out.ownGe (g:=w.heap.size+1) (by omega) 6
  have zs0:=HW.out.ownGe (g:=w.heap.size+1+1) (by omega) 0
  have zs1:=HW.out.ownGe (g:=w.heap.size+1+1) (by omega) 1
  have zs2:=HW.out.ownGe (g:=w.heap.size+1+1) (by omega) 2
  have zs3:=HW.out.ownGe (g:=w.heap.size+1+1) (by omega) 3
  have zs4:=HW.out.ownGe (g:=w.heap.size+1+1) (by omega) 4
  have zs5:=HW.out.ownGe (g:=w.heap.size+1+1) (by omega) 5
  have zs6:=HW.out.ownGe (g:=w.heap.size+1+1) (by omega) 6
  refine wpAnyH_ready (rs:=[3]) (by kernel_rfl) (by simp) ?_
  refine AllReadyH.cons (o:=⟨_,_,_,_,_,_⟩) rfl (fun K hK=>?_) (AllReadyH.nil)
  go_simp
  refine hK.out _ _ ?hB87 (fun hHeld=>?_)
  case hB87=>(with_reducible exact set7K14 hHeld (by omega) (by omega) (by omega))
  clear hK K
  (try simp only [Act.put,stpA,stpB,stpC])
  obtain ⟨wb,hwb⟩:∃ z,z=((((((wa.setCell ⟨w.heap.size+1+1,0,none⟩ (.int .i64 sq1)).setCell ⟨w.heap.size+1+1,1,none⟩ (.int .i64 t1)).setCell ⟨w.heap.size+1+1,2,none⟩ (.int .i64 nn1)).setCell ⟨w.heap.size+1+1,3,none⟩ (.int .i64 s1)).setCell ⟨w.heap.size+1+1,4,none⟩ (.int .i64 qq1)).setCell ⟨w.heap.size+1+1,5,none⟩ (.int .i64 lo1)).setCell ⟨w.heap.size+1+1,6,none⟩ (.int .i64 hi1):=⟨_,rfl⟩
  rw [← hwb]
  rw [← hwb] at hHeld
  obtain ⟨y0_,y1_,y2_,y3_,y4_,y5_,y6_⟩:=cells7 (w:=wa) (p:=w.heap.size+1+1) (v0:=.int .i64 sq1) (v1:=.int .i64 t1) (v2:=.int .i64 nn1) (v3:=.int .i64 s1) (v4:=.int .i64 qq1) (v5:=.int .i64 lo1) (v6:=.int .i64 hi1) y0 y1 y2 y3 y4 y5 y6
  have y0_:wb.cell? ⟨w.heap.size+1+1,0,none⟩=some (.int .i64 sq1):=by rw [hwb];exact y0_
  have y1_:wb.cell? ⟨w.heap.size+1+1,1,none⟩=some (.int .i64 t1):=by rw [hwb];exact y1_
  have y2_:wb.cell? ⟨w.heap.size+1+1,2,none⟩=some (.int .i64 nn1):=by rw [hwb];exact y2_
  have y3_:wb.cell? ⟨w.heap.size+1+1,3,none⟩=some (.int .i64 s1):=by rw [hwb];exact y3_
  have y4_:wb.cell? ⟨w.heap.size+1+1,4,none⟩=some (.int .i64 qq1):=by rw [hwb];exact y4_
  have y5_:wb.cell? ⟨w.heap.size+1+1,5,none⟩=some (.int .i64 lo1):=by rw [hwb];exact y5_
  have y6_:wb.cell? ⟨w.heap.size+1+1,6,none⟩=some (.int .i64 hi1):=by rw [hwb];exact y6_
  have r0_:wb.cell? ⟨w.heap.size+1,0,none⟩=some (.int .i64 sq2):=by rw [hwb];exact far7 (w:=wa) r0 (by omega)
  have r1_:wb.cell? ⟨w.heap.size+1,1,none⟩=some (.int .i64 t2):=by rw [hwb];exact far7 (w:=wa) r1 (by omega)
  have r2_:wb.cell? ⟨w.heap.size+1,2,none⟩=some (.int .i64 nn2):=by rw [hwb];exact far7 (w:=wa) r2 (by omega)
  have r3_:wb.cell? ⟨w.heap.size+1,3,none⟩=some (.int .i64 s2):=by rw [hwb];exact far7 (w:=wa) r3 (by omega)
  have r4_:wb.cell? ⟨w.heap.size+1,4,none⟩=some (.int .i64 qq2):=by rw [hwb];exact far7 (w:=wa) r4 (by omega)
  have r5_:wb.cell? ⟨w.heap.size+1,5,none⟩=some (.int .i64 lo2):=by rw [hwb];exact far7 (w:=wa) r5 (by omega)
  have r6_:wb.cell? ⟨w.heap.size+1,6,none⟩=some (.int .i64 hi2):=by rw [hwb];exact far7 (w:=wa) r6 (by omega)
  have HW:=Lib.hid (show Up w wb by rw [hwb];exact HW.out.set7 (by omega))
  clear hwb r0 r1 r2 r3 r4 r5 r6 y0 y1 y2 y3 y4 y5 y6
  have r0:=r0_
  have r1:=r1_
  have r2:=r2_
  have r3:=r3_
  have r4:=r4_
  have r5:=r5_
  have r6:=r6_
  have y0:=y0_
  have y1:=y1_
  have y2:=y2_
  have y3:=y3_
  have y4:=y4_
  have y5:=y5_
  have y6:=y6_
  clear r0_ r1_ r2_ r3_ r4_ r5_ r6_ y0_ y1_ y2_ y3_ y4_ y5_ y6_
  have zr0:=HW.out.ownGe (g:=w.heap.size+1) (by omega) 0
  have zr1:=HW.out.ownGe (g:=w.heap.size+1) (by omega) 1
  have zr2:=HW.out.ownGe (g:=w.heap.size+1) (by omega) 2
  have zr3:=HW.out.ownGe (g:=w.heap.size+1) (by omega) 3
  have zr4:=HW.out.ownGe (g:=w.heap.size+1) (by omega) 4
  have zr5:=HW.out.ownGe (g:=w.heap.size+1) (by omega) 5
  have zr6:=HW.out.ownGe (g:=w.heap.size+1) (by omega) 6
  have zs0:=HW.out.ownGe (g:=w.heap.size+1+1) (by omega) 0
  have zs1:=HW.out.ownGe (g:=w.heap.size+1+1) (by omega) 1
  have zs2:=HW.out.ownGe (g:=w.heap.size+1+1) (by omega) 2
  have zs3:=HW.out.ownGe (g:=w.heap.size+1+1) (by omega) 3
  have zs4:=HW.out.ownGe (g:=w.heap.size+1+1) (by omega) 4
  have zs5:=HW.out.ownGe (g:=w.heap.size+1+1) (by omega) 5
  have zs6:=HW.out.ownGe (g:=w.heap.size+1+1) (by omega) 6
  refine wpAnyH_done (by kernel_rfl) ?_ _
  clear hHeld HSS
  go_wp2_with fail
  refine bodyPost_ret (v:=.tuple #[.agg #[.int .i64 sq2,.int .i64 t2,.int .i64 nn2,.int .i64 s2,.int .i64 qq2,.int .i64 lo2,.int .i64 hi2],.agg #[.int .i64 sq1,.int .i64 t1,.int .i64 nn1,.int .i64 s1,.int .i64 qq1,.int .i64 lo1,.int .i64 hi1]]) (by simp [results,Tryz.results36,go_sem,r0,r1,r2,r3,r4,r5,r6,y0,y1,y2,y3,y4,y5,y6]) rfl ⟨rfl,HW.out⟩
theorem list_two' {X:List Mrk} (h:1<X.length):∃ T,X=X.getD 0 mk0 :: X.getD 1 mk0 :: T:=by
  match X,h with
  | a :: b :: T,_=>exact ⟨T,rfl⟩
theorem mends_up (g v q c now seq:Int) (n k:Nat) (A:Option Addr) (X:List Mrk) (hn:n≤50000) (h1:n=1→liveB now v (X.getD 0 mk0).t=true) (hX:∀ j,j<n→bdM (X.getD j mk0)) (w:World) (hS:SG cM w A n X) :
    Calls Tryz.prog 36 #[.agg #[.int .i64 g,.int .i64 v,.int .i64 q,.int .i64 c,.int .i64 now,.int .i64 seq,.slice A n k]] w fun e w'=>e=.returned (.tuple #[mg (enM now v X).1,mg (enM now v X).2])∧Up w w':=by
  by_cases h0:n=0
  · subst h0
    have e:X=[]:=List.eq_nil_of_length_eq_zero hS.1
    subst e
    exact mends_none g v q c now seq k A w
  by_cases hn1:n=1
  · have e:=list_one (R:=X) (by rw [hS.1];exact hn1)
    rw [show enM now v X = (X.getD 0 mk0, X.getD 0 mk0) by conv => lhs; rw [e]
                                                           rfl]
    exact mends_first g v q c now seq n k A X hn (by omega) (h1 hn1) w hS
  obtain ⟨T,e⟩:=list_two' (X:=X) (by rw [hS.1];omega)
  have ee:enM now v X=if liveB now v (X.getD 0 mk0).t=true then (X.getD 0 mk0,X.getD 0 mk0) else if (X.getD 1 mk0).sq=(X.getD 0 mk0).sq+1 then (X.getD 1 mk0,X.getD 1 mk0) else (X.getD 1 mk0,X.getD 0 mk0):=by
    conv=>lhs;rw [e]
    rfl
  cases hl:liveB now v (X.getD 0 mk0).t with
  | true =>
    rw [ee,if_pos hl]
    exact mends_first g v q c now seq n k A X hn (by omega) hl w hS
  | false =>
    rw [ee,if_neg (by rw [hl];exact Bool.false_ne_true)]
    by_cases hq:(X.getD 1 mk0).sq=(X.getD 0 mk0).sq+1
    · rw [if_pos hq]
      exact mends_second g v q c now seq n k A X hn (by omega) hl (hX 0 (by omega)) hq w hS
    · rw [if_neg hq]
      exact mends_both g v q c now seq n k A X hn (by omega) hl (hX 0 (by omega)) hq w hS
end Go.Proofs.YtafkoddgefcpnaaGreat
