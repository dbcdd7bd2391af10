/- Rows of marks: Include and Drop of the reference. -/
import Derived.Test.YtafkoddgefcpnaaGreatRows
import Derived.Test.YtafkoddgefcpnaaGreatZKFnq94
import Derived.Test.YtafkoddgefcpnaaGreatZKMcq92
namespace Go.Proofs.YtafkoddgefcpnaaGreat
open Go.RowKit
set_option linter.unusedVariables false

set_option maxHeartbeats 4000000 in
set_option maxRecDepth 100000 in
theorem rinclude_up (n k:Nat) (A:Option Addr) (X:List Mrk) (seq now v:Int) (hn:n≤50000) (hX:∀ j,j<n→bdM (X.getD j mk0)) (hv1:-4096≤v) (hv2:v≤4096) (w:World) (hS:SG cM w A n X) :
    Calls Tryz.prog 34 #[.slice A n k,.int .i64 seq,.int .i64 now,.int .i64 v] w fun e w'=>∃ A' k',e=.returned (.slice A' (n+1) k')∧n+1≤k'∧Nw w A'∧Up w w'∧SG cM w' A' (n+1) (inM seq now v X):=by
  have HL:=Lib.hid hS.1
  have HS:=Lib.hid hS
  have HX:=Lib.hid hX
  have z1:IntKind.i64.wrap (v * v)=v * v:=(inc_fits (m:=⟨1,0,1,0,0,0,0⟩) ⟨by simp,by simp,by simp,by simp,by simp,by simp⟩ hv1 hv2).2.2.1
  clear hS hX
  go_enter Tryz.func34,Tryz.ntmps34
  go_wp2_with fail
  go_loopw [9,14] (fun t9 t14 wr=>∃ (i:Nat) (B:Option Addr) (kb:Nat),t9=.slice B i kb∧t14=.int .i64 i∧i≤n∧Hid (OwM w wr (.slice B i kb) i ((X.take i).map (incM v)))∧Hid (Up w wr)) (fun _ t _=>n - (intOf t).toNat)
  case atStart=>exact ⟨0,none,0,rfl,rfl,Nat.zero_le _,Lib.hid (OG.nil _ _ _),Lib.hid (Up.refl w)⟩
  case round =>
    obtain ⟨i,B,kb,rfl,rfl,hin,HO,HW⟩:=hrel
    by_cases hi':i<n
    · obtain ⟨b,o,rfl,d0,d1,d2,d3,d4,d5,d6⟩:=mrk_at (HS.out.up HW.out) mk0 hi'
      have HT:=Lib.hid (take_map (v:=v) (X:=X) (i:=i) (by rw [HL.out];exact hi'))
      obtain ⟨y1,y2,_,y3⟩:=inc_fits (HX.out i hi') hv1 hv2
      generalize X.getD i mk0=M at *
      obtain ⟨sq,t,nn,s,qq,lo,hi⟩:=M
      simp only at d0 d1 d2 d3 d4 d5 d6 y1 y2 y3
      have f20:(i:Int)<n:=by omega
      have f30:(0:Int)≤i:=by omega
      have hmn:(if v<lo then v else lo)=min lo v:=by split <;> omega
      have hmx:(if hi<v then v else hi)=max hi v:=by split <;> omega
      go_upto_region 5 with fail
      refine (show ∀ W5:World,W5=_→Code.wp _ _ _ _ W5 from fun W5 hW5=>?_) _ rfl
      have cW5_0:W5.cell? ⟨wr.heap.size,0,none⟩=some (.int .i64 sq):=by rw [hW5];simp [go_sem]
      have cW5_1:W5.cell? ⟨wr.heap.size,1,none⟩=some (.int .i64 t):=by rw [hW5];simp [go_sem]
      have cW5_2:W5.cell? ⟨wr.heap.size,2,none⟩=some (.int .i64 nn):=by rw [hW5];simp [go_sem]
      have cW5_3:W5.cell? ⟨wr.heap.size,3,none⟩=some (.int .i64 s):=by rw [hW5];simp [go_sem]
      have cW5_4:W5.cell? ⟨wr.heap.size,4,none⟩=some (.int .i64 qq):=by rw [hW5];simp [go_sem]
      have cW5_5:W5.cell? ⟨wr.heap.size,5,none⟩=some (.int .i64 lo):=by rw [hW5];simp [go_sem]
      have cW5_6:W5.cell? ⟨wr.heap.size,6,none⟩=some (.int .i64 hi):=by rw [hW5];simp [go_sem]
      have UW5:Hid (Up wr W5):=Lib.hid (by rw [hW5];repeat (first | exact Up.refl _ | refine Up.alloc ?_ _ _ | refine Up.setCell ?_ (by first | (simp;done) | (simp;omega) | omega) _ | refine Up.drewN ?_ _ | refine Up.drew ?_))
      clear hW5
      obtain ⟨A2,k2,w2,hr,hO2,hU2⟩:=append1M w W5 B i kb _ sq t (nn+1) (s+v) (qq+v * v) (min lo v) (max hi v) ⟨HO.out.1,HO.out.2.of_up UW5.out⟩ (HW.out.trans UW5.out) (by omega)
      have HO2:=Lib.hid hO2
      have HU2:=Lib.hid hU2
      clear hO2 hU2

      go_wp2_with (refine wpList_append_run (o:=⟨some 46,_,_,_,_,_⟩) rfl (.tmp 18) (.tmp 45) _ rfl _ _ rfl rfl _ _ hr ?_)
      go_roundw
      case rel=>exact ⟨i+1,A2,k2,rfl,by go_num,by omega,Lib.hid (by rw [HT.out];exact HO2.out),HU2⟩
      case measure=>simp [intOf];omega
    · obtain rfl:i=n:=by omega
      go_upto_region 7 with fail
      obtain ⟨A2,k2,w2,hr,hO2,hU2⟩:=append1M w wr B i kb _ seq now 1 v (v * v) v v HO.out HW.out (by omega)
      have HO2:=Lib.hid hO2
      have HU2:=Lib.hid hU2
      clear hO2 hU2
      go_wp2_with (refine wpList_append_run (o:=⟨some 59,_,_,_,_,_⟩) rfl (.tmp 48) (.tmp 58) _ rfl _ _ rfl rfl _ _ hr ?_)
      go_ret
      exact ⟨A2,k2,rfl,(OG.sg HO2.out).1,OG.nw HO2.out,HU2.out,by
        have h:=(OG.sg HO2.out).2
        rw [show X.take i=X by rw [← HL.out];exact List.take_length] at h
        exact h⟩

set_option maxHeartbeats 4000000 in
set_option maxRecDepth 100000 in
theorem rdrop_up (n k:Nat) (A:Option Addr) (X:List Mrk) (td v:Int) (hn:n≤50000) (hk:n≤k) (w0 w:World) (hS:SG cM w0 A n X) (hu0:Up w0 w) :
    Calls Tryz.prog 30 #[.slice A n k,.int .i64 td,.int .i64 v] w fun e w'=>∃ A' n' k',e=.returned (.slice A' n' k')∧n'≤n∧n'≤k'∧Up w w'∧SG cM w0 A' n' (drM td v X):=by
  have HU0:=Lib.hid hu0
  have HZ0:Hid (drL (fun m=>liveB td v m.t) X=drM td v X):=Lib.hid rfl
  generalize drM td v X=Z at *
  have HS:=Lib.hid hS
  have KL:=Lib.hid (rlive_any td v)
  clear hS hu0
  go_enter Tryz.func30,Tryz.ntmps30
  go_wp2_with fail
  go_loopw [0] (fun t0 wr=>∃ (m kk:Nat) (B:Option Addr) (R:List Mrk),t0=.slice B m kk∧m≤kk∧m≤n∧Hid (SG cM w0 B m R)∧Hid (drL (fun m=>liveB td v m.t) R=Z)∧Hid (Up w wr)) (fun t0 _=>lnS t0)
  case atStart=>exact ⟨n,k,A,X,rfl,hk,Nat.le_refl _,HS,HZ0,Lib.hid (Up.refl w)⟩
  case round =>
    obtain ⟨m,kk,B,R,rfl,hmk,hmn,HR,HZ,HW⟩:=hrel
    by_cases h1:1<m
    · obtain ⟨a,T,e1,e2⟩:=list_two HR.out.1 h1
      have hc:=HR.out.cut cM_len (k:=1) (cap:=kk) (by omega) hmk
      obtain ⟨b,o,rfl,d0,d1,d2,d3,d4,d5,d6⟩:=mrk_at (HR.out.up (HU0.out.trans HW.out)) mk0 h1
      have HC:Hid (SG cM w0 (some ⟨b,o+7,none⟩) (m - 1) (R.drop 1)):=Lib.hid (by
        rw [if_neg (show ¬ kk=1 by omega)] at hc
        simpa [add_at] using hc)
      have hrun:=sliceM_run (some ⟨b,o,none⟩) m kk (by omega)
      have HE:Hid (liveB td v (R.getD 1 mk0).t=false→drL (fun m=>liveB td v m.t) (R.drop 1)=Z):=Lib.hid (fun h=>by
        rw [← HZ.out,e2];conv=>rhs;rw [e1]
        exact (drL_two h).symm)
      have HE2:Hid (liveB td v (R.getD 1 mk0).t=true→R=Z):=Lib.hid (fun h=>by
        rw [← HZ.out];conv=>rhs;rw [e1]
        rw [drL_stop h];exact e1)
      clear e1 e2 hc
      generalize (R.getD 1 mk0).t=t1 at *
      have z1:(1:Int)<m:=by omega
      have z2:¬ ((m:Int)=1):=by omega
      have z3:((m:Int) == 1)=false:=beq_eq_false_iff_ne.2 z2
      simp only [Nat.one_mul] at d0 d1 d2 d3 d4 d5 d6
      have KJ:=Lib.hid (KL.out t1)
      cases hl:liveB td v t1 with
      | false =>
        have HE:=Lib.hid (HE.out hl)
        rw [hl] at KJ
        clear hl HE2
        go_wp2_with (go_at_call 40;(with_reducible refine (KJ.out _).mono ?_);rintro e w' ⟨rfl,rfl⟩)
        go_roundw
        case rel=>exact ⟨m - 1,kk - 1,some ⟨b,o+7,none⟩,R.drop 1,rfl,by omega,by omega,HC,HE,HW⟩
        case measure=>simp [lnS];omega
      | true =>
        obtain rfl:R=Z:=HE2.out hl
        rw [hl] at KJ
        clear hl HE
        go_wp2_with (go_at_call 40;(with_reducible refine (KJ.out _).mono ?_);rintro e w' ⟨rfl,rfl⟩)
        go_ret
        exact ⟨_,_,_,rfl,hmn,hmk,HW.out,HR.out⟩
    · by_cases h2:m=1
      · subst h2
        obtain ⟨b,o,rfl,d0,d1,d2,d3,d4,d5,d6⟩:=mrk_at (HR.out.up (HU0.out.trans HW.out)) mk0 Nat.zero_lt_one
        have HE:Hid (drL (fun m=>liveB td v m.t) [R.getD 0 mk0]=Z):=Lib.hid (by rw [← list_one HR.out.1];exact HZ.out)
        have HE2:Hid (R=[R.getD 0 mk0]):=Lib.hid (list_one HR.out.1)
        have HE3:Hid (liveB td v (R.getD 0 mk0).t=false→Z=[]):=Lib.hid (fun h=>by rw [← HE.out,drL_one,h];rfl)
        have HE4:Hid (liveB td v (R.getD 0 mk0).t=true→Z=R):=Lib.hid (fun h=>by rw [← HE.out,drL_one,h,if_pos rfl];exact HE2.out.symm)
        generalize (R.getD 0 mk0).t=t1 at *
        simp only [Nat.zero_mul,Nat.add_zero] at d0 d1 d2 d3 d4 d5 d6
        have KJ:=Lib.hid (KL.out t1)
        cases hl:liveB td v t1 with
        | false =>
          obtain rfl:Z=[]:=HE3.out hl
          rw [hl] at KJ
          clear hl HE HE2 HE3 HE4
          go_wp2_with (go_at_call 40;(with_reducible refine (KJ.out _).mono ?_);rintro e w' ⟨rfl,rfl⟩)
          go_ret
          exact ⟨_,_,_,rfl,Nat.zero_le _,Nat.le_refl _,HW.out,SG.none_⟩
        | true =>
          obtain rfl:Z=R:=HE4.out hl
          rw [hl] at KJ
          clear hl HE HE2 HE3 HE4
          go_wp2_with (go_at_call 40;(with_reducible refine (KJ.out _).mono ?_);rintro e w' ⟨rfl,rfl⟩)
          go_ret
          exact ⟨_,_,_,rfl,hmn,hmk,HW.out,HR.out⟩
      · obtain rfl:m=0:=by omega
        have e:R=[]:=List.eq_nil_of_length_eq_zero HR.out.1
        have hz:=HZ.out
        rw [e] at hz
        have hz2:Z=[]:=hz.symm
        subst hz2
        clear e hz
        go_wp2_with fail
        go_ret
        exact ⟨_,_,_,rfl,Nat.zero_le _,hmk,HW.out,SG.none_⟩
end Go.Proofs.YtafkoddgefcpnaaGreat
