/- Proved: for every list of raw items and any numbers the law SpreadTruth returns true: the spread of the live items lies between the bounds, which are narrow against it, with few marks. Conditions: none. -/
import Derived.Test.YtafkoddgefcpnaaGreatRows
import Derived.Test.YtafkoddgefcpnaaGreatZLAskq179
import Derived.Test.YtafkoddgefcpnaaGreatZLRatq152
namespace Go.Proofs.YtafkoddgefcpnaaGreat
open Go.ChangeShapes Go.WideShapes Go.ChangeAt Go.RowKit Go.Joins
set_option linter.unusedVariables false

theorem spreadTruth_own:ownKnob Tryz.prog.godebug=none:=by kernel_rfl

set_option maxHeartbeats 16000000 in
set_option maxRecDepth 100000 in
theorem spreadTruth_walk (n k:Nat) (A:Option Addr) (L:List It) (hk:n≤k) (hI:InI L) (a1:Int) (_:(Lit.int .i64 a1).wf=true) (a2:Int) (_:(Lit.int .i64 a2).wf=true) (a3:Int) (_:(Lit.int .i64 a3).wf=true) (a4:Int) (_:(Lit.int .i64 a4).wf=true) (w:World) (hS:Sl w A n L) :
    Calls Tryz.prog 4 #[.slice A n k,.int .i64 a1,.int .i64 a2,.int .i64 a3,.int .i64 a4] w fun e w'=>e=.returned (.bool true)∧Up w w':=by
  have KA:=Lib.hid awake14_up
  have HS:=Lib.hid hS
  have KW:=Lib.hid (window_any a1 a2 a3)
  have K1:=Lib.hid (fun v q d (hm:mayC v q d 0=true) W=>new14_yes v q d 0 hm W)
  clear hS hI
  go_enter Tryz.func4,Tryz.ntmps4
  go_upto_region 3 with (first
    | (go_at_call 16;(with_reducible refine (KW.out _).mono ?_);rintro e w0 ⟨v,q,d,rfl,hv,hq,hd,rfl⟩;have hmay:mayC v q d 0=true:=(mayC_ok (by omega) (by omega) hv.1 (by omega) hd.1 hd.2 hq.1 (by omega)))
    | (go_at_call 17;(with_reducible refine (K1.out v q d hmay _).mono ?_);rintro e w1 ⟨rfl,hu⟩;have HU1:=Lib.hid hu;clear hu))
  have K2:=Lib.hid (fun W (h:Sl W A n L)=>items14_up n k A L v hv.1 hv.2 60 60 rfl (by omega) W h)
  have hp:w.heap.size≤w1.heap.size:=HU1.out.size
  obtain ⟨w2,hw2⟩:∃ y,y=w1.alloc (.cells #[.int .i64 v,.int .i64 q,.int .i64 d,.int .i64 0,.int .i64 0,.slice none 0 0] 24):=⟨_,rfl⟩
  rw [← hw2]
  have HU2:Hid (Up w w2):=Lib.hid (by rw [hw2];exact HU1.out.alloc _ _)
  have HV2:Hid (Vp w2 w1.heap.size v q d 0 0 [] none 0):=Lib.hid (by rw [hw2];exact Vp.new SG.none_ (Nat.le_refl _) (fun _ _ e=>by cases e))
  clear hw2
  generalize w1.heap.size=p at *
  have hpl:p<w2.heap.size:=HV2.out.lt
  have HM:=Lib.hid hmay
  have hv1:=hv.1
  have hv2:=hv.2
  have hq1:=hq.1
  have hq2:=hq.2
  have hd1:=hd.1
  have hd2:=hd.2
  clear hv hq hd hmay KW K1
  go_wp2_with (go_at_call 18;(with_reducible refine (K2.out _ (HS.out.up HU2.out)).mono ?_);rintro e w3 ⟨Am,nm,km,M0,z,rfl,hnm,hT,hVp,hN,hO,hu⟩;have HT:=Lib.hid hT;have HVp:=Lib.hid hVp;have HSM:=Lib.hid hO;have HLM:=Lib.hid hO.1;have HNm:=Lib.hid (hN.off hpl);have HU3:=Lib.hid (HU2.out.trans hu);have HV3:=Lib.hid (HV2.out.up hu);have hp3:p<w3.heap.size:=Nat.lt_of_lt_of_le hpl hu.size;clear hu hT hVp hN hO)
  have HBM:Hid (∀ b o,0<nm→Am=some ⟨b,o,none⟩→b<w3.heap.size):=Lib.hid (fun b o h0 e=>by
    obtain ⟨b2,o2,e2,h2⟩:=HSM.out.out h0
    rw [e] at e2
    injection e2 with e2
    injection e2 with e3 e4
    omega)
  have hz0:=HT.out.1
  have hz1:z≤51 * 60:=by have h1:=HT.out.2.1;have:=HLM.out;omega
  have HR0:Hid (RpM w w3 p w3.heap.size v q d Am nm M0 z 0 (.slice none 0 0)):=Lib.hid ⟨0,[],[],none,none,0,0,rfl,Own.nil _ _,Ge.none_ _,HV3.out,Sp.start HM.out,Nat.le_refl _,(fun h=>(mdT_step HT.out (by rw [HLM.out];exact h)).1),⟨Int.le_refl _,hz0⟩,HSM.out,HU3.out,Nat.le_refl _⟩
  have KMo:=Lib.hid (rmost14_any q d)
  generalize w3.heap.size=s3 at *
  clear HV2 HV3 HSM HU3 HU2 K2 HS hpl
  go_loopw [13,41] (fun s t wr=>∃ i:Nat,t=.int .i64 i∧i≤nm∧Hid (RpM w wr p s3 v q d Am nm M0 z i s)) (fun _ t _=>nm - (intOf t).toNat)
  case atStart=>exact ⟨0,rfl,Nat.zero_le _,HR0⟩
  case round =>
    obtain ⟨i,rfl,hin,HQ⟩:=hrel
    obtain ⟨now,X,M,A1,B,k1,kb,rfl,hOB,hGB,hV,hHs,hMi,hnow,hnz,hSM,hUp,hsz⟩:=HQ.out
    have HU:=Lib.hid hUp
    have HOB:=Lib.hid hOB
    have HGB:=Lib.hid hGB
    have HV:=Lib.hid hV
    have HH:=Lib.hid hHs
    have HSM:=Lib.hid hSM
    have HBL:=Lib.hid hOB.lt
    have n0:=hnz.1
    have n1:=hnz.2
    by_cases hlt:i<nm
    case neg =>
      have g0:0≤a4 % (2 * v+2):=Int.emod_nonneg _ (by omega)
      have g1:a4 % (2 * v+2)<2 * v+2:=Int.emod_lt_of_pos _ (by omega)
      have KM:=Lib.hid (fun W=>modm_any a4 (2 * v+2) (by omega) (by omega) W)
      generalize a4 % (2 * v+2)=gp at *
      obtain ⟨td,etd⟩:∃ y,now+gp=y:=⟨_,rfl⟩
      have w3_:IntKind.i64.wrap (2 * v)=2 * v:=IntWalk.i64_in _ (by omega)
      have w4_:IntKind.i64.wrap (2 * v+2)=2 * v+2:=IntWalk.i64_in _ (by omega)
      have w5_:IntKind.i64.wrap (now+gp)=td:=by rw [etd];exact IntWalk.i64_in _ (by omega)
      have HH1:=Lib.hid (HH.out.adv (td:=td) (by omega) (by omega))
      have KD:=Lib.hid (fun W (hu:Up wr W)=>advVP (td:=td) HH.out HV.out.sl HV.out.cap hu (by omega) (by omega))
      have HSB:Hid (Sl wr B M.length M):=Lib.hid (by obtain ⟨A9,k9,e9,_,h9⟩:=HOB.out.sl;cases e9;exact h9)
      have HOp:Hid (∀ b o,B=some ⟨b,o,none⟩→b ≠ p):=Lib.hid (fun b o e=>by have:=HGB.out b o e;omega)
      have td0:0≤td:=by omega
      have td1:td≤100000:=by omega
      have x0:=HV.out.c0
      have x1:=HV.out.c1
      have x2:=HV.out.c2
      have x3:=HV.out.c3
      have x4:=HV.out.c4
      have x5:=HV.out.c5
      have hpc:p<wr.heap.size:=HV.out.lt
      generalize drM td v X=X1 at *
      have HMl:=Lib.hid hMi
      clear etd HQ hUp hOB hGB hV hHs hSM hnow hnz
      go_upto_region 20 with fail
      go_cut [12] (fun s wx=>∃ (A2:Option Addr) (k2:Nat),s=.int .i64 0∧Hid (Vp wx p v q d td M.length X1 A2 k2∧Up w wx∧Sl wx B M.length M))
      case first =>
        go_region_with (first
          | (go_at_call 20;(with_reducible refine (KM.out _).mono ?_);rintro e w' ⟨rfl,rfl⟩)
          | (go_at_call 7;(with_reducible refine (KD.out _ ((Up.refl wr).drew)).mono ?_);rintro e w5 ⟨A2,k2,rfl,hc2,hn2,hs2,hu⟩;have hv:=(Up.refl wr).drew.trans hu;have HU5:=Lib.hid (HU.out.trans hv);have HS2:=Lib.hid hs2;have HN2:=Lib.hid (hn2.off (p:=p) (by simpa using hpc));have HB5:=Lib.hid (HSB.out.up hv);have y0:=hu.keep _ _ _ x0;have y1:=hu.keep _ _ _ x1;have y2:=hu.keep _ _ _ x2;have y3:=hu.keep _ _ _ x3;have y4:=hu.keep _ _ _ x4;have y5:=hu.keep _ _ _ x5;have z0:=HU5.out.ownGe (g:=p) hp 0;have z1:=HU5.out.ownGe (g:=p) hp 1;have z2:=HU5.out.ownGe (g:=p) hp 2;have z3:=HU5.out.ownGe (g:=p) hp 3;have z4:=HU5.out.ownGe (g:=p) hp 4;have z5:=HU5.out.ownGe (g:=p) hp 5;clear hu hv hs2 hn2))
        all_goals
          go_wp2_with fail
          go_meet
          exact ⟨A2,k2,rfl,Lib.hid ⟨Vp.put y0 y1 y2 y3 y4 y5 HS2.out HN2.out hc2,HU5.out.setP6 hp,HB5.out.offP6 HOp.out _ _ _ _ _ _⟩⟩
      case rest =>
      obtain ⟨A2,k2,rfl,HX⟩:=hcut
      clear x0 x1 x2 x3 x4 x5 HV HSB HU KD KM HSM HOB HGB HBL HT HVp
      have hl1:=HH1.out.len
      have hl2:=HH1.out.2.1
      have KQ:=Lib.hid (fun W (h:SG cM W A2 X1.length X1)=>ask14_up v q d td M.length X1.length k2 A2 X1 (by omega) W h)
      obtain ⟨h1,h2,⟨i0,i1⟩,⟨i2,i3⟩,i4,i5⟩:=HH1.out.ans hq1
      rw [HH1.out.st] at KQ
      have hfw:=few_live (td:=td) (v:=v) (show M.length≤200 by omega) (fun x hx=>⟨(HH1.out.mem x hx).2.1,(HH1.out.mem x hx).2.2.1⟩)
      have KL:=Lib.hid (fun W (h:Sl W B M.length M)=>mliveI_up M.length kb B M td v (by omega) td0 td1 hv1 hv2 W h)
      generalize mlL M td v=ML at *
      have KT:=Lib.hid (fun n7 B2 k7 W (h:Sl W B2 n7 ML)=>rspread_up n7 k7 B2 ML hfw W h)
      generalize sprN ML=s0 at *
      generalize sprD ML=s1 at *
      generalize spR (enM td v X1).1=za at *
      generalize spR (enM td v X1).2=zb at *
      obtain ⟨b0,b1⟩:=za
      obtain ⟨b2,b3⟩:=zb
      simp only at h1 h2 i0 i1 i2 i3
      rw [show akS true (b0,b1) (b2,b3)=.tuple #[.agg #[.int .i64 b0,.int .i64 b1,.int .i64 b0,.int .i64 b1,.int .i64 b2,.int .i64 b3],.int .i64 0] from rfl] at KQ
      have KH:=Lib.hid (fun W=>bholds_up b0 b1 b0 b1 b2 b3 s0 s1 i0 i1 i0 i1 i2 i3 i4 i5 W)
      rw [h1] at KH
      have KI:=Lib.hid (fun W=>within_up b0 b1 b0 b1 b2 b3 q s0 s1 i0 i1 i0 i1 i2 i3 ⟨by omega,by omega⟩ i4 i5 W)
      rw [h2] at KI
      have HUd:=Lib.hid HX.out.2.1
      have HSB:=Lib.hid HX.out.2.2
      have HV:=Lib.hid HX.out.1
      have x0:=HV.out.c0
      have x1:=HV.out.c1
      have x2:=HV.out.c2
      have x3:=HV.out.c3
      have x4:=HV.out.c4
      have x5:=HV.out.c5
      clear h1 h2 i0 i1 i2 i3 i4 i5 hfw HX HMl
      go_wp2_with (first
        | (go_at_call 22;(with_reducible refine (KL.out _ HSB.out).mono ?_);rintro e w7 ⟨B2,n7,k7,rfl,hn7,hO7,hu⟩;have HS7:Hid (Sl w7 B2 n7 ML):=Lib.hid (by obtain ⟨A9,k9,e9,_,h9⟩:=hO7.sl;cases e9;exact h9);have HU7:=Lib.hid (HUd.out.trans hu);have HV7:=Lib.hid (HV.out.up hu);clear hu hO7 x0 x1 x2 x3 x4 x5)
        | (go_at_call 21;(with_reducible refine (KT.out _ _ _ _ HS7.out).mono ?_);rintro e w9 ⟨rfl,hu⟩;have HU9:=Lib.hid (HU7.out.trans hu);have HV9:=Lib.hid (HV7.out.up hu);have x0:=HV9.out.c0;have x1:=HV9.out.c1;have x2:=HV9.out.c2;have x3:=HV9.out.c3;have x4:=HV9.out.c4;have x5:=HV9.out.c5;have hp9:p<w9.heap.size:=HV9.out.lt;clear hu)
        | (go_at_call 11;(with_reducible refine (KQ.out _ (HV9.out.sl.up ((Up.refl _).alloc _ _))).mono ?_);rintro e w10 ⟨rfl,hu⟩;have hv:=((Up.refl w9).alloc #[.int .i64 s0,.int .i64 s1] 31).trans hu;have HU10:=Lib.hid (HU9.out.trans hv);have n0_:=hu.keep w9.heap.size 0 (.int .i64 s0) (by simp [go_sem]);have n1_:=hu.keep w9.heap.size 1 (.int .i64 s1) (by simp [go_sem]);have hl9:w9.heap.size<w10.heap.size:=World.block_lt_of_cell? _ _ n0_;clear hu hv x0 x1 x2 x3 x4 x5)
        | (go_at_call 23;(with_reducible refine (KH.out _).mono ?_);rintro e w11 ⟨rfl,hu⟩;have hv:=((Up.refl w10).alloc #[.int .i64 b0,.int .i64 b1,.int .i64 b0,.int .i64 b1,.int .i64 b2,.int .i64 b3] 33).trans hu;have HU11:=Lib.hid (HU10.out.trans hv);have o0_:=hv.keep _ _ _ n0_;have o1_:=hv.keep _ _ _ n1_;have t0_:=hu.keep w10.heap.size 0 (.int .i64 b0) (by simp [go_sem]);have t1_:=hu.keep w10.heap.size 1 (.int .i64 b1) (by simp [go_sem]);have t2_:=hu.keep w10.heap.size 2 (.int .i64 b0) (by simp [go_sem]);have t3_:=hu.keep w10.heap.size 3 (.int .i64 b1) (by simp [go_sem]);have t4_:=hu.keep w10.heap.size 4 (.int .i64 b2) (by simp [go_sem]);have t5_:=hu.keep w10.heap.size 5 (.int .i64 b3) (by simp [go_sem]);have hl11:w10.heap.size<w11.heap.size:=World.block_lt_of_cell? _ _ t0_;clear hu hv n0_ n1_)
        | (go_at_call 24;(with_reducible refine (KI.out _).mono ?_);rintro e w12 ⟨rfl,hu⟩;have HU12:=Lib.hid (HU11.out.trans hu);clear hu)
        | (go_at_call 6;(with_reducible refine (KA.out _).mono ?_);rintro e w13 ⟨rfl,hu⟩;have HU13:=Lib.hid (HU12.out.trans hu);clear hu))
      go_ret
      exact ⟨rfl,HU13.out⟩
    obtain ⟨b',o',rfl,d0,d1⟩:=hSM.at_ hlt
    have hml:i<M0.length:=by rw [HLM.out];exact hlt
    obtain ⟨q1,q2,q4⟩:=mdT_step HT.out hml
    have hn1:=hnow hlt
    have HVl:=Lib.hid (HVp.out i hlt)
    have HX:Hid (i+1<nm→(M0.getD i (0,0)).1≤(M0.getD (i+1) (0,0)).1):=Lib.hid (fun h=>q4 (by rw [HLM.out];exact h))
    generalize (M0.getD i (0,0)).1=p0 at *
    generalize (M0.getD i (0,0)).2=p1 at *
    have KD:=Lib.hid (fun W (hu:Up wr W)=>advVP hHs hV.sl hV.cap hu hn1 (by omega:p0≤16777216))
    have HH1:=Lib.hid (hHs.adv hn1 (show p0≤16777216 by omega))
    generalize drM p0 v X=X1 at *
    have f2:(i:Int)<nm:=by omega
    have f3:(0:Int)≤i:=by omega
    have hpr:p<wr.heap.size:=hV.lt
    have x0:=hV.c0
    have x1:=hV.c1
    have x2:=hV.c2
    have x3:=hV.c3
    have x4:=hV.c4
    have x5:=hV.c5
    clear hUp hOB hGB hV hHs hSM HQ hn1 hnow q4 hml hnz HH
    go_wp2_with (go_at_call 7;(with_reducible refine (KD.out _ ((Up.refl _).alloc _ _)).mono ?_);rintro e w3 ⟨A2,k2,rfl,hk2,hnw,hS2,hu⟩;have hv:=((Up.refl wr).alloc #[.int .i64 p0,.int .i64 p1] 45).trans hu;have e0:=hv.keep _ _ _ x0;have e1:=hv.keep _ _ _ x1;have e2:=hv.keep _ _ _ x2;have e3:=hv.keep _ _ _ x3;have e4:=hv.keep _ _ _ x4;have e5:=hv.keep _ _ _ x5;have y0:=hu.keep wr.heap.size 0 (.int .i64 p0) (by simp [go_sem]);have y1:=hu.keep wr.heap.size 1 (.int .i64 p1) (by simp [go_sem]);have HU3:=Lib.hid (HU.out.trans hv);have HV3:=Lib.hid hv;have HA2:=Lib.hid (hnw.off (p:=p) (by simp;omega));have HS2:=Lib.hid hS2;have hs3:wr.heap.size<w3.heap.size:=World.block_lt_of_cell? _ _ y0;have z0:=HU3.out.ownGe (g:=p) hp 0;have z1:=HU3.out.ownGe (g:=p) hp 1;have z2:=HU3.out.ownGe (g:=p) hp 2;have z3:=HU3.out.ownGe (g:=p) hp 3;have z4:=HU3.out.ownGe (g:=p) hp 4;have z5:=HU3.out.ownGe (g:=p) hp 5;clear hu hv hS2 hnw x0 x1 x2 x3 x4 x5)
    obtain ⟨w4,hw4⟩:∃ y,y=(((((w3.setCell ⟨p,0,none⟩ (.int .i64 v)).setCell ⟨p,1,none⟩ (.int .i64 q)).setCell ⟨p,2,none⟩ (.int .i64 d)).setCell ⟨p,3,none⟩ (.int .i64 p0)).setCell ⟨p,4,none⟩ (.int .i64 (M.length))).setCell ⟨p,5,none⟩ (.slice A2 X1.length k2):=⟨_,rfl⟩
    rw [← hw4]
    have HU4:Hid (Up w w4):=Lib.hid (by rw [hw4];exact HU3.out.setP6 hp)
    have HV4:Hid (Vp w4 p v q d p0 M.length X1 A2 k2):=Lib.hid (by rw [hw4];exact Vp.put e0 e1 e2 e3 e4 e5 HS2.out HA2.out hk2)
    have y0':w4.cell? ⟨wr.heap.size,0,none⟩=some (.int .i64 p0):=by rw [hw4];exact farP6 y0 (by omega)
    have y1':w4.cell? ⟨wr.heap.size,1,none⟩=some (.int .i64 p1):=by rw [hw4];exact farP6 y1 (by omega)
    have HSM4:Hid (Sl w4 (some ⟨b',o',none⟩) nm M0):=Lib.hid (by rw [hw4];exact (HSM.out.up HV3.out).offP6 HNm.out _ _ _ _ _ _)
    have HOB4:Hid (Own w w4 (.slice B M.length kb) M.length M):=Lib.hid (by
      rw [hw4]
      refine (HOB.out.of_up HV3.out).putP6 (fun b o k e=>?_) _ _ _ _ _ _
      injection e with e1 e2 e3
      have:=HGB.out b o e1
      omega)
    have hs4:w4.heap.size=w3.heap.size:=by rw [hw4];simp [World.setCell]
    clear hw4 e0 e1 e2 e3 e4 e5 z0 z1 z2 z3 z4 z5 y0 y1 HS2 HOB HV3 HV HSM HA2 HU3
    have c0_:=HV4.out.c0
    have c1_:=HV4.out.c1
    have c2_:=HV4.out.c2
    have c3_:=HV4.out.c3
    have c4_:=HV4.out.c4
    have c5_:=HV4.out.c5
    have hq4:wr.heap.size<w4.heap.size:=World.block_lt_of_cell? _ _ y0'
    cases hfull:fuM d M.length X1
    case true =>
      have KD2:=Lib.hid (fun W (hu:Up w4 W)=>addVP_full HH1.out HV4.out.sl HV4.out.cap hu HVl.out hfull)
      have hfm:=HH1.out.few
      generalize mostS q d=mz at *
      have tm:decide (mz<(X1.length:Int))=false:=decide_eq_false (by omega)
      clear hfull hfm
      go_wp2_with (go_at_call 9;(with_reducible refine (KD2.out _ (Up.refl _)).mono ?_);rintro e w5 ⟨rfl,hu⟩;have HU5:=Lib.hid (HU4.out.trans hu);have HC5:=Lib.hid hu;have u0:=hu.keep _ _ _ y0';have hq5:wr.heap.size<w5.heap.size:=World.block_lt_of_cell? _ _ u0;have t0:=hu.keep _ _ _ c0_;have t1:=hu.keep _ _ _ c1_;have t2:=hu.keep _ _ _ c2_;have t3:=hu.keep _ _ _ c3_;have t4:=hu.keep _ _ _ c4_;have t5:=hu.keep _ _ _ c5_;have hp5:p<w5.heap.size:=World.block_lt_of_cell? _ _ t0;clear hu)
      have t5':=((Up.refl w5).alloc #[.int .i64 0,.int .i64 0,.int .i64 0,.int .i64 0,.int .i64 0,.slice none 0 0] 24).keep _ _ _ t5
      go_quiet (first | (go_at_call 19;refine Calls.quiet_of_same ((KMo.out _).mono fun _ _ h=>⟨h.1,h.2.symm⟩)))
      go_wp2_with fail
      go_roundw
      case rel =>
        have hv:=fun n_:Nat=>(HC5.out.alloc #[.int .i64 0,.int .i64 0,.int .i64 0,.int .i64 0,.int .i64 0,.slice none 0 0] 24).drewN n_
        exact ⟨i+1,by go_num,by omega,Lib.hid ⟨p0,X1,M,A2,B,k2,kb,rfl,HOB4.out.of_up (hv _),HGB.out,HV4.out.up (hv _),HH1.out,by omega,HX.out,⟨q1,q2⟩,HSM4.out.up (hv _),(HU5.out.alloc _ _).drewN _,Nat.le_trans (by omega:s3≤w4.heap.size) (hv _).size⟩⟩
      case measure=>simp [intOf];omega
    case false =>
      have KD2:=Lib.hid (fun W (hu:Up w4 W)=>addVP HH1.out HV4.out.sl HV4.out.cap hu HVl.out hfull)
      have HH2:=Lib.hid (HH1.out.add HVl.out hfull (by omega))
      generalize adS q M.length p0 p1 X1=X2 at *
      have hfm:=HH2.out.few
      generalize mostS q d=mz at *
      have tm:decide (mz<(X2.length:Int))=false:=decide_eq_false (by omega)
      clear hfull hfm
      go_wp2_with (go_at_call 9;(with_reducible refine (KD2.out _ (Up.refl _)).mono ?_);rintro e w5 ⟨A5,k5_,rfl,hk5,hnw5,hS5,hu⟩;have HS5:=Lib.hid hS5;have HA5:=Lib.hid hnw5;have HU5:=Lib.hid (HU4.out.trans hu);have HC5:=Lib.hid hu;have u0:=hu.keep _ _ _ y0';have u1:=hu.keep _ _ _ y1';have m0:=hu.keep _ _ _ c0_;have m1:=hu.keep _ _ _ c1_;have m2:=hu.keep _ _ _ c2_;have m3:=hu.keep _ _ _ c3_;have m4:=hu.keep _ _ _ c4_;have m5:=hu.keep _ _ _ c5_;have hq5:wr.heap.size<w5.heap.size:=World.block_lt_of_cell? _ _ u0;clear hu hS5 hnw5 c0_ c1_ c2_ c3_ c4_ c5_ y0' y1')
      obtain ⟨w6,hw6⟩:∃ y,y=w5.alloc (.cells #[.int .i64 v,.int .i64 q,.int .i64 d,.int .i64 p0,.int .i64 (((M.length:Int)+1)),.slice A5 X2.length k5_] 24):=⟨_,rfl⟩
      rw [← hw6]
      have hv6:Up w5 w6:=by rw [hw6];exact (Up.refl _).alloc _ _
      obtain ⟨b0,b1,b2,b3,b4,b5⟩:w6.cell? ⟨w5.heap.size,0,none⟩=some (.int .i64 v)∧w6.cell? ⟨w5.heap.size,1,none⟩=some (.int .i64 q)∧w6.cell? ⟨w5.heap.size,2,none⟩=some (.int .i64 d)∧w6.cell? ⟨w5.heap.size,3,none⟩=some (.int .i64 p0)∧w6.cell? ⟨w5.heap.size,4,none⟩=some (.int .i64 (((M.length:Int)+1)))∧w6.cell? ⟨w5.heap.size,5,none⟩=some (.slice A5 X2.length k5_):=by rw [hw6];simp [go_sem]
      have hs6:w5.heap.size<w6.heap.size:=World.block_lt_of_cell? _ _ b0
      have HV6:=Lib.hid hv6
      have HU6:=Lib.hid (HU5.out.trans hv6)
      have a0:=hv6.keep _ _ _ u0
      have a1:=hv6.keep _ _ _ u1
      have t0:=HV6.out.keep _ _ _ m0
      have t1:=HV6.out.keep _ _ _ m1
      have t2:=HV6.out.keep _ _ _ m2
      have t3:=HV6.out.keep _ _ _ m3
      have t4:=HV6.out.keep _ _ _ m4
      have t5:=HV6.out.keep _ _ _ m5
      clear hw6 hv6 u0 u1 m0 m1 m2 m3 m4 m5
      have HO6:=Lib.hid (HOB4.out.of_up (HC5.out.trans HV6.out))
      have HSM6:=Lib.hid (HSM4.out.up (HC5.out.trans HV6.out))
      have hw45:=HC5.out.size
      obtain ⟨g7,k7,w7,hr7,hO7,hU7,hg7,hst⟩:=appendI w ((w6.alloc (.cells #[.int .i64 p0,.int .i64 p1] 45)).drew) B M.length kb M p0 p1 (HO6.out.of_up ((Up.refl _).alloc _ _).drew) ((HU6.out.alloc _ _).drew) w6.heap.size (by simp [go_sem]) (by simp [go_sem]) (by omega)
      have HK7:Hid (∀ x o u,x ≠ g7→w6.cell? ⟨x,o,none⟩=some u→w7.cell? ⟨x,o,none⟩=some u):=Lib.hid (fun x o u hx hc=>hst x o u hx (((Up.refl w6).alloc _ _).drew.keep _ _ _ hc))
      have HG7:Hid ((g7<wr.heap.size∧s3≤g7)∨w6.heap.size<g7):=Lib.hid (by
        rcases hg7 with h | ⟨o,h⟩
        · right;have:w6.heap.size+1≤g7:=by simpa using h
          omega
        · exact Or.inl ⟨HBL.out g7 o h,HGB.out g7 o h⟩)
      have hG:=HG7.out
      have e5:w5.heap.size ≠ g7:=by omega
      have er:wr.heap.size ≠ g7:=by omega
      have ep:p ≠ g7:=by omega
      have SS:Hid (Up w w6∧w6.cell? ⟨w5.heap.size,0,none⟩=some (.int .i64 v)∧w6.cell? ⟨w5.heap.size,1,none⟩=some (.int .i64 q)∧w6.cell? ⟨w5.heap.size,2,none⟩=some (.int .i64 d)∧w6.cell? ⟨w5.heap.size,3,none⟩=some (.int .i64 p0)∧w6.cell? ⟨w5.heap.size,4,none⟩=some (.int .i64 (((M.length:Int)+1)))∧w6.cell? ⟨w5.heap.size,5,none⟩=some (.slice A5 X2.length k5_)∧w6.cell? ⟨wr.heap.size,0,none⟩=some (.int .i64 p0)∧w6.cell? ⟨wr.heap.size,1,none⟩=some (.int .i64 p1)):=Lib.hid ⟨HU6.out,b0,b1,b2,b3,b4,b5,a0,a1⟩
      have T1:Hid (Up w w7∧w7.cell? ⟨w5.heap.size,0,none⟩=some (.int .i64 v)∧w7.cell? ⟨w5.heap.size,1,none⟩=some (.int .i64 q)∧w7.cell? ⟨w5.heap.size,2,none⟩=some (.int .i64 d)∧w7.cell? ⟨w5.heap.size,3,none⟩=some (.int .i64 p0)∧w7.cell? ⟨w5.heap.size,4,none⟩=some (.int .i64 (((M.length:Int)+1)))∧w7.cell? ⟨w5.heap.size,5,none⟩=some (.slice A5 X2.length k5_)∧w7.cell? ⟨wr.heap.size,0,none⟩=some (.int .i64 p0)∧w7.cell? ⟨wr.heap.size,1,none⟩=some (.int .i64 p1)):=Lib.hid ⟨hU7,hst _ _ _ e5 (((Up.refl w6).alloc _ _).drew.keep _ _ _ b0),hst _ _ _ e5 (((Up.refl w6).alloc _ _).drew.keep _ _ _ b1),hst _ _ _ e5 (((Up.refl w6).alloc _ _).drew.keep _ _ _ b2),hst _ _ _ e5 (((Up.refl w6).alloc _ _).drew.keep _ _ _ b3),hst _ _ _ e5 (((Up.refl w6).alloc _ _).drew.keep _ _ _ b4),hst _ _ _ e5 (((Up.refl w6).alloc _ _).drew.keep _ _ _ b5),hst _ _ _ er (((Up.refl w6).alloc _ _).drew.keep _ _ _ a0),hst _ _ _ er (((Up.refl w6).alloc _ _).drew.keep _ _ _ a1)⟩
      have v0_:=HK7.out _ _ _ ep t0
      have v1_:=HK7.out _ _ _ ep t1
      have v2_:=HK7.out _ _ _ ep t2
      have v3_:=HK7.out _ _ _ ep t3
      have v4_:=HK7.out _ _ _ ep t4
      have v5_:=HK7.out _ _ _ ep t5
      have fz0:=hU7.ownGe (g:=p) hp 0
      have fz1:=hU7.ownGe (g:=p) hp 1
      have fz2:=hU7.ownGe (g:=p) hp 2
      have fz3:=hU7.ownGe (g:=p) hp 3
      have fz4:=hU7.ownGe (g:=p) hp 4
      have fz5:=hU7.ownGe (g:=p) hp 5
      have HU7:=Lib.hid hU7
      have HO7:=Lib.hid hO7
      have H7:=Lib.hid hr7
      have n5_:p ≠ w5.heap.size:=by omega
      have nr_:p ≠ wr.heap.size:=by omega
      clear hst hr7 hO7 hU7 hg7 hG
      go_region_held3 (fun w'=>Up w w'∧w'.cell? ⟨w5.heap.size,0,none⟩=some (.int .i64 v)∧w'.cell? ⟨w5.heap.size,1,none⟩=some (.int .i64 q)∧w'.cell? ⟨w5.heap.size,2,none⟩=some (.int .i64 d)∧w'.cell? ⟨w5.heap.size,3,none⟩=some (.int .i64 p0)∧w'.cell? ⟨w5.heap.size,4,none⟩=some (.int .i64 (((M.length:Int)+1)))∧w'.cell? ⟨w5.heap.size,5,none⟩=some (.slice A5 X2.length k5_)∧w'.cell? ⟨wr.heap.size,0,none⟩=some (.int .i64 p0)∧w'.cell? ⟨wr.heap.size,1,none⟩=some (.int .i64 p1))
        (repeat (first | (with_reducible refine setP8 ?_ hp n5_ n5_ n5_ n5_ n5_ n5_ nr_ nr_) | (with_reducible exact SS.out) | (with_reducible exact T1.out) | (with_reducible refine keepP8 (Lib.hid ((Up.refl _).alloc _ _)) ?_) | (with_reducible refine keepP8 (Lib.hid (Up.refl _).drew) ?_)))
        (first
          | ((with_reducible refine step_append_run rfl (.tmp 70) (.tmp 72) _ rfl _ _ ?_ ?_ _ _ H7.out ?_);rfl;rfl))
      (try clear ‹Up w _∧_›)
      obtain ⟨w8,hw8⟩:∃ y,y=(((((w7.setCell ⟨p,0,none⟩ (.int .i64 v)).setCell ⟨p,1,none⟩ (.int .i64 q)).setCell ⟨p,2,none⟩ (.int .i64 d)).setCell ⟨p,3,none⟩ (.int .i64 p0)).setCell ⟨p,4,none⟩ (.int .i64 (((M.length:Int)+1)))).setCell ⟨p,5,none⟩ (.slice A5 X2.length k5_):=⟨_,rfl⟩
      rw [← hw8]
      have hq:∀ b o,A5=some ⟨b,o,none⟩→b<w6.heap.size→b ≠ g7:=fun b o e hb=>by
        have h1:=HA5.out b o e
        have h2:=HG7.out
        omega
      have hqm:∀ b o,some (⟨b',o',none⟩:Addr)=some ⟨b,o,none⟩→b<w6.heap.size→b ≠ g7:=fun b o e hb=>by
        have h1:=HBM.out b o (by omega) e
        have h2:=HG7.out
        omega
      have hlen:((M ++ [(p0,p1)]).length:Int)=(M.length:Int)+1:=by rw [List.length_append];rfl
      have hV8:Vp w8 p v q d p0 (M ++ [(p0,p1)]).length X2 A5 k5_:=by
        rw [hw8,hlen]
        exact Vp.put v0_ v1_ v2_ v3_ v4_ v5_ ((HS5.out.up HV6.out).stays HK7.out hq) (HA5.out.off (by omega)) hk5
      have hM8:Sl w8 (some ⟨b',o',none⟩) nm M0:=by
        rw [hw8]
        exact (HSM6.out.stays HK7.out hqm).offP6 HNm.out _ _ _ _ _ _
      have hO8:Own w w8 (.slice (some ⟨g7,0,none⟩) (M.length+1) k7) (M.length+1) (M ++ [(p0,p1)]):=by
        rw [hw8]
        refine HO7.out.putP6 (fun b o k e=>?_) _ _ _ _ _ _
        injection e with e1 e2 e3
        injection e1 with e1
        injection e1 with e1 e4
        omega
      have hU8:Up w w8:=by rw [hw8];exact HU7.out.setP6 hp
      have hz8:s3≤w8.heap.size:=by
        have h1:w5.heap.size<w7.heap.size:=World.block_lt_of_cell? _ _ (HK7.out _ _ _ e5 b0)
        rw [hw8];simp [World.setCell];omega
      clear hw8
      have HR8:Hid (∀ W,Up w8 W→RpM w W p s3 v q d (some ⟨b',o',none⟩) nm M0 z (i+1) (.slice (some ⟨g7,0,none⟩) (M.length+1) k7)):=Lib.hid (fun W hu=>by
        have hlen:(M ++ [(p0,p1)]).length=M.length+1:=by rw [List.length_append];rfl
        refine ⟨p0,X2,M ++ [(p0,p1)],A5,some ⟨g7,0,none⟩,k5_,k7,by rw [hlen],by rw [hlen];exact hO8.of_up hu,?_,hV8.up hu,HH2.out,by rw [hlen];omega,HX.out,⟨q1,q2⟩,hM8.up hu,hU8.trans hu,by have:=hu.size;omega⟩
        intro b o e
        injection e with e
        injection e with e1 e2
        have:=HG7.out
        omega)
      have c5:=hV8.c5
      have hp8:p<w8.heap.size:=hV8.lt
      clear hV8 hM8 hO8 hU8 hz8 hlen v0_ v1_ v2_ v3_ v4_ v5_
      go_wp2_with fail
      go_quiet (first | (go_at_call 19;refine Calls.quiet_of_same ((KMo.out _).mono fun _ _ h=>⟨h.1,h.2.symm⟩)))
      go_wp2_with fail
      go_roundw
      case rel=>exact ⟨i+1,by go_num,by omega,Lib.hid (HR8.out _ ((Up.refl _).drewN _))⟩
      case measure=>simp [intOf];omega

set_option maxRecDepth 100000 in
theorem spreadTruth_lifted (os:Os) (started:os.Started) (H:Type) (enc:TypeId × Value→H) :
    ReturnsInHanded {} Tryz.checked os 4 .any (Rows.spreadTruthSpec.pre6 enc Tryz.prog Tryz.f4 Rows.spreadTruthRow.domain false) (Rows.spreadTruthSpec.post enc Tryz.prog Tryz.f4 false true false false):=by
  refine returnsInHanded_of_change_sized (C:=Tryz.checked) spreadTruth_own started (by kernel_rfl) Tryz.func4
    (ChangeSpec.witness6 (enc:=enc) (C:=Tryz.checked) false ⟨#[],#[.slice none 0 0,.int .i64 0,.int .i64 0,.int .i64 0,.int .i64 0],[]⟩ 8 (by kernel_rfl) (by kernel_rfl) (by kernel_rfl) (by kernel_rfl)) ?_
  intro W base args ds gs before hval0 hW hcnd hsz0 _
  have hval:∀ (j:Nat) t v,Tryz.f4.params[j]?=some t→args[j]?=some v→Value.okWide Tryz.prog W .any base t v:=hval0
  have hW':=hW
  obtain ⟨p,q,hA0,hV,rfl,hfz,hnd⟩:=hW'
  have hA:DataW.TrodAll enc Tryz.prog W 0 (fun _=>true) true Tryz.f4.params.toList args.toList ds p:=hA0
  rw [Tryz.params4] at hA hval
  obtain ⟨v0,vs0,d0,ds0,p0,q0,hargs,rfl,rfl,h0,r0⟩:=trodAll_cons hA
  obtain ⟨v1,vs1,d1,ds1,p1,q1,rfl,rfl,rfl,h1,r1⟩:=trodAll_cons r0
  obtain ⟨v2,vs2,d2,ds2,p2,q2,rfl,rfl,rfl,h2,r2⟩:=trodAll_cons r1
  obtain ⟨v3,vs3,d3,ds3,p3,q3,rfl,rfl,rfl,h3,r3⟩:=trodAll_cons r2
  obtain ⟨v4,vs4,d4,ds4,p4,q4,rfl,rfl,rfl,h4,r4⟩:=trodAll_cons r3
  obtain ⟨rfl,rfl,rfl⟩:=trodAll_nil r4
  obtain rfl:args=#[v0,v1,v2,v3,v4]:=by cases args;simp_all
  obtain ⟨rfl,rfl⟩:=trodVars_none hV
  have hlt:=fun x hx=>hW.lt x hx
  have k0:=h0
  obtain ⟨n0,m0,A0,L0,rfl,hk0,hS0,hI0⟩:=open_items2 (hval 0 39 v0 rfl rfl) h0
  have k1:=h1
  obtain ⟨a1,rfl,rfl,rfl,w1⟩:=open_int Tryz.underlying2 (hval 1 2 v1 rfl rfl) h1
  have k2:=h2
  obtain ⟨a2,rfl,rfl,rfl,w2⟩:=open_int Tryz.underlying3 (hval 2 3 v2 rfl rfl) h2
  have k3:=h3
  obtain ⟨a3,rfl,rfl,rfl,w3⟩:=open_int Tryz.underlying3 (hval 3 3 v3 rfl rfl) h3
  have k4:=h4
  obtain ⟨a4,rfl,rfl,rfl,w4⟩:=open_int Tryz.underlying2 (hval 4 2 v4 rfl rfl) h4
  refine (spreadTruth_walk n0 m0 A0 L0 hk0 hI0 a1 w1 a2 w2 a3 w3 a4 w4 W hS0).mono fun e W' ⟨he,hg⟩=>?_
  subst he
  exact ⟨_,rfl,post_of_same (pv:=[]) hW (fun _ _ _=>(trodAll_cons_mk (shut_bool Tryz.underlying4 _) trodAll_mk0)) (fun sp hsp=>(trodAll_cons_mk (stay (by kernel_rfl) (of_decide_eq_true (by kernel_rfl)) k0 hg hlt (fun x hx=>by first | (simp at hx;done) | simp [hx]) hsp) (trodAll_cons_mk (stay (by kernel_rfl) (of_decide_eq_true (by kernel_rfl)) k1 hg hlt (fun x hx=>by first | (simp at hx;done) | simp [hx]) hsp) (trodAll_cons_mk (stay (by kernel_rfl) (of_decide_eq_true (by kernel_rfl)) k2 hg hlt (fun x hx=>by first | (simp at hx;done) | simp [hx]) hsp) (trodAll_cons_mk (stay (by kernel_rfl) (of_decide_eq_true (by kernel_rfl)) k3 hg hlt (fun x hx=>by first | (simp at hx;done) | simp [hx]) hsp) (trodAll_cons_mk (stay (by kernel_rfl) (of_decide_eq_true (by kernel_rfl)) k4 hg hlt (fun x hx=>by first | (simp at hx;done) | simp [hx]) hsp) trodAll_mk0)))))) (fun _ _=>rfl) rfl
    (hg.grown.frame _) hg.grown.2.1 (ok_one (by kernel_rfl) rfl (okWide_bool_mk Tryz.underlying4 _))⟩

theorem spreadTruth_over:Rows.spreadTruthRow.holds Tryz.pinned (OpenSpec.ofChange Rows.spreadTruthSpec) :=
  OpenClaim.holds_of_wide 4 Tryz.f4 rfl rfl rfl rfl rfl rfl rfl ⟨rfl,rfl,rfl,rfl,rfl⟩ rfl rfl rfl rfl rfl (by kernel_rfl) Tryz.func4 (by kernel_rfl)
    (of_decide_eq_true (by kernel_rfl)) (by unfold Func.isWrapper;first | (rw [if_pos (by decide +kernel)];kernel_rfl) | (rw [if_neg (by decide +kernel)];exact ⟨rfl,rfl⟩))
    (fun os started H enc _=>spreadTruth_lifted os started H enc)

theorem spreadTruth_holds:Rows.SpreadTruthSaid :=
  spreadTruth_over
end Go.Proofs.YtafkoddgefcpnaaGreat
