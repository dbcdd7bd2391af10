/- Texts of these claims, one after the other. -/
import Derived.Test.YtafkoddgefcpnaaGreatRows
import Derived.Test.YtafkoddgefcpnaaGreatZKValq85
namespace Go.Proofs.YtafkoddgefcpnaaGreat
open Go.RowKit
set_option linter.unusedVariables false

theorem makeM_run (c:Nat) (hc:c≤100000) (w:World):∃ cs:Array Value,cs.size=(c+1) * 7∧(Instr.makeSlice 22 (.int .i64 0) (.int .i64 ((c:Int)+1))).run Tryz.prog w=.ok (.slice (some ⟨w.heap.size,0,none⟩) 0 (c+1)) (w.alloc (.cells cs 56)):=by
  obtain ⟨i,hi,hz,hs,hb⟩:=info_parts mark_info
  have:=run_make (P:=Tryz.prog) w 22 56 i _ Tryz.underlying22 hi hz .i64 .i64 0 ((c+1:Nat):Int) (by omega) (by omega) (by rw [hb];omega) (by omega)
  rw [show ((c:Int)+1)=((c+1:Nat):Int) by omega]
  refine ⟨_,?_,this⟩
  rw [hs]
  simp [madeCells]
theorem OwM.made {w0 w:World} (hu:w0.heap.size≤w.heap.size) (cs:Array Value) (c:Nat) (hc:c≤1000000) (hs:cs.size=c * 7):OwM w0 (w.alloc (.cells cs 56)) (.slice (some ⟨w.heap.size,0,none⟩) 0 c) 0 [] :=
  ⟨rfl,by simp [flG],Or.inr ⟨w.heap.size,c,cs,rfl,hu,heap_alloc_new w _,Nat.zero_le _,by simp [maxLen];omega,hs,by simp [flG]⟩⟩
/-- A sum and a product of a mark's numbers and a value. -/
theorem inc_fits {m:Mrk} {v:Int} (h:bdM m) (h1:-4096≤v) (h2:v≤4096):IntKind.i64.wrap (m.n+1)=m.n+1∧IntKind.i64.wrap (m.s+v)=m.s+v∧IntKind.i64.wrap (v * v)=v * v∧IntKind.i64.wrap (m.q+v * v)=m.q+v * v:=by
  obtain ⟨a,b,c,_⟩:=h
  have y1:=sq_bd (x:=v) (m:=4096) (by omega) h2
  have y2:=sq_nn v
  refine ⟨?_,?_,?_,?_⟩ <;> rw [IntKind.wrap_i64] <;> omega
theorem take_map {v:Int} {X:List Mrk} {i:Nat} (h:i<X.length):(X.take (i+1)).map (incM v)=(X.take i).map (incM v) ++ [incM v (X.getD i mk0)]:=by
  rw [List.take_succ_eq_append_getElem h,List.map_append,List.map_singleton]
  simp [List.getD,h]

set_option maxHeartbeats 4000000 in
set_option maxRecDepth 100000 in
theorem extended_up (n k:Nat) (A:Option Addr) (X:List Mrk) (seq now v:Int) (hn:n≤50000) (hX:∀ j,j<n→bdM (X.getD j mk0)) (hv1:-4096≤v) (hv2:v≤4096) (w:World) (hS:SG cM w A n X) :
    Calls Tryz.prog 68 #[.slice A n k,.int .i64 seq,.int .i64 now,.int .i64 v] w fun e w'=>∃ A' k',e=.returned (.slice A' (n+1) k')∧Up w w'∧SG cM w' A' (n+1) (inM seq now v X):=by
  have HL:=Lib.hid hS.1
  have HS:=Lib.hid hS
  have HX:=Lib.hid hX
  obtain ⟨cs,hcs,hmk⟩:=makeM_run n (by omega) w
  have HM0:=Lib.hid (OwM.made (w0:=w) (w:=w) (Nat.le_refl _) cs (n+1) (by omega) hcs)
  have z1:IntKind.i64.wrap (v * v)=v * v:=(inc_fits (m:=⟨1,0,1,0,0,0,0⟩) ⟨by simp,by simp,by simp,by simp,by simp,by simp⟩ hv1 hv2).2.2.1
  clear hS hX hcs
  go_enter Tryz.func68,Tryz.ntmps68
  go_wp2_with fail
  go_loopw [9,18] (fun t9 t wr=>∃ (i:Nat) (B:Option Addr) (kb:Nat),t9=.slice B i kb∧t=.int .i64 i∧i≤n∧Hid (OwM w wr (.slice B i kb) i ((X.take i).map (incM v)))∧Hid (Up w wr)) (fun _ t _=>n - (intOf t).toNat)
  case atStart=>exact ⟨0,_,_,rfl,rfl,Nat.zero_le _,HM0,Lib.hid ((Up.refl w).alloc _ _)⟩
  case round =>
    obtain ⟨i,B,kb,rfl,rfl,hin,HO,HW⟩:=hrel
    by_cases hi':i<n
    · obtain ⟨b,o,rfl,d0,d1,d2,d3,d4,d5,d6⟩:=mrk_at (HS.out.up HW.out) mk0 hi'
      have HT:=Lib.hid (take_map (v:=v) (X:=X) (i:=i) (by rw [HL.out];exact hi'))
      obtain ⟨y1,y2,_,y3⟩:=inc_fits (HX.out i hi') hv1 hv2
      generalize X.getD i mk0=M at *
      obtain ⟨sq,t,nn,s,qq,lo,hi⟩:=M
      simp only at d0 d1 d2 d3 d4 d5 d6 y1 y2 y3
      have f20:(i:Int)<n:=by omega
      have f30:(0:Int)≤i:=by omega
      go_upto_region 9 with fail
      refine (show ∀ W9:World,W9=_→Code.wp _ _ _ _ W9 from fun W9 hW9=>?_) _ rfl
      have cW9_0:W9.cell? ⟨wr.heap.size,0,none⟩=some (.int .i64 sq):=by rw [hW9];simp [go_sem]
      have cW9_1:W9.cell? ⟨wr.heap.size,1,none⟩=some (.int .i64 t):=by rw [hW9];simp [go_sem]
      have cW9_2:W9.cell? ⟨wr.heap.size,2,none⟩=some (.int .i64 (nn+1)):=by rw [hW9];simp [go_sem]
      have cW9_3:W9.cell? ⟨wr.heap.size,3,none⟩=some (.int .i64 (s+v)):=by rw [hW9];simp [go_sem]
      have cW9_4:W9.cell? ⟨wr.heap.size,4,none⟩=some (.int .i64 (qq+v * v)):=by rw [hW9];simp [go_sem]
      have cW9_5:W9.cell? ⟨wr.heap.size,5,none⟩=some (.int .i64 (min lo v)):=by rw [hW9];simp [go_sem];(split <;> omega)
      have cW9_6:W9.cell? ⟨wr.heap.size,6,none⟩=some (.int .i64 (max hi v)):=by rw [hW9];simp [go_sem];(split <;> omega)
      have UW9:Hid (Up wr W9):=Lib.hid (by rw [hW9];repeat (first | exact Up.refl _ | refine Up.alloc ?_ _ _ | refine Up.setCell ?_ (by first | (simp;done) | (simp;omega) | omega) _ | refine Up.drewN ?_ _ | refine Up.drew ?_))
      clear hW9
      obtain ⟨A2,k2,w2,hr,hO2,hU2⟩:=append1M w W9 B i kb _ sq t (nn+1) (s+v) (qq+v * v) (min lo v) (max hi v) ⟨HO.out.1,HO.out.2.of_up UW9.out⟩ (HW.out.trans UW9.out) (by omega)
      have HO2:=Lib.hid hO2
      have HU2:=Lib.hid hU2
      clear hO2 hU2
      go_wp2_with (refine wpList_append_run (o:=⟨some 51,_,_,_,_,_⟩) rfl (.tmp 48) (.tmp 50) _ rfl _ _ rfl rfl _ _ hr ?_)
      go_roundw
      case rel=>exact ⟨i+1,A2,k2,rfl,by go_num,by omega,Lib.hid (by rw [HT.out];exact HO2.out),HU2⟩
      case measure=>simp [intOf];omega
    · obtain rfl:i=n:=by omega
      go_upto_region 11 with fail
      obtain ⟨A2,k2,w2,hr,hO2,hU2⟩:=append1M w wr B i kb _ seq now 1 v (v * v) v v HO.out HW.out (by omega)
      have HO2:=Lib.hid hO2
      have HU2:=Lib.hid hU2
      clear hO2 hU2
      go_wp2_with (refine wpList_append_run (o:=⟨some 64,_,_,_,_,_⟩) rfl (.tmp 53) (.tmp 63) _ rfl _ _ rfl rfl _ _ hr ?_)
      go_ret
      exact ⟨A2,k2,rfl,HU2.out,by
        have h:=(OG.sg HO2.out).2
        rw [show X.take i=X by rw [← HL.out];exact List.take_length] at h
        exact h⟩

end Go.Proofs.YtafkoddgefcpnaaGreat

namespace Go.Proofs.YtafkoddgefcpnaaGreat
open Go.RowKit
set_option linter.unusedVariables false

theorem makeM0_run (c:Nat) (hc:c≤100001) (w:World):∃ cs:Array Value,cs.size=c * 7∧(Instr.makeSlice 22 (.int .i64 0) (.int .i64 (c:Int))).run Tryz.prog w=.ok (.slice (some ⟨w.heap.size,0,none⟩) 0 c) (w.alloc (.cells cs 56)):=by
  obtain ⟨i,hi,hz,hs,hb⟩:=info_parts mark_info
  have:=run_make (P:=Tryz.prog) w 22 56 i _ Tryz.underlying22 hi hz .i64 .i64 0 (c:Int) (by omega) (by omega) (by rw [hb];omega) (by omega)
  refine ⟨_,?_,this⟩
  rw [hs]
  simp [madeCells]
theorem prune_stepG {nr:Mrk→Mrk→Bool} {n i nx:Nat} {X M Z:List Mrk} (hl:X.length=n) (hi:i<n) (hanti:∀ p j,i<p→p≤j→j<n→nr (X.getD i mk0) (X.getD p mk0)=false→nr (X.getD i mk0) (X.getD j mk0)=false) (h:M ++ prL nr (n - i) (X.drop i)=Z) (h1:i+1≤nx) (h2:nx<n∨nx=i+1) (h3:i+1<nx→nr (X.getD i mk0) (X.getD nx mk0)=true) (h4:nx+1<n→nr (X.getD i mk0) (X.getD (nx+1) mk0)=false):(M ++ [X.getD i mk0]) ++ prL nr (n - nx) (X.drop nx)=Z:=by
  have e1:X.drop i=X.getD i mk0 :: X.drop (i+1):=by
    rw [List.drop_eq_getElem_cons (by omega)];simp [List.getD,show i<X.length by omega]
  rw [e1,show n - i=(n - i - 1)+1 by omega] at h
  have h:=prL_go h
  rw [cutL_pru mk0 h1 (by rw [hl];exact h2) h3 (fun j hj1 hj2=>by
    rw [hl] at hj2
    exact hanti (nx+1) j (by omega) (by omega) hj2 (h4 (by omega)))] at h
  rw [prL_fuel nr (n - nx) (n - i - 1) (X.drop nx) (by rw [List.length_drop];omega) (by rw [List.length_drop];omega)]
  exact h

end Go.Proofs.YtafkoddgefcpnaaGreat

namespace Go.Proofs.YtafkoddgefcpnaaGreat
open Go.RowKit
set_option linter.unusedVariables false

set_option maxHeartbeats 4000000 in
set_option maxRecDepth 100000 in
theorem prunedS_up (nr:Mrk→Mrk→Bool) (ok:Mrk→Prop) (b1:Nat) (n k:Nat) (A:Option Addr) (X:List Mrk) (hn:n≤50001) (w:World) (hX:∀ j,j<n→ok (X.getD j mk0)) (hanti:∀ i p j,i<p→p≤j→j<n→nr (X.getD i mk0) (X.getD p mk0)=false→nr (X.getD i mk0) (X.getD j mk0)=false) (hnr:(∀ P M:Mrk,ok P→ok M→∀ W,Up w W→Calls Tryz.prog 69 #[.agg #[.int .i64 P.sq,.int .i64 P.t,.int .i64 P.n,.int .i64 P.s,.int .i64 P.q,.int .i64 P.lo,.int .i64 P.hi],.agg #[.int .i64 M.sq,.int .i64 M.t,.int .i64 M.n,.int .i64 M.s,.int .i64 M.q,.int .i64 M.lo,.int .i64 M.hi],.pointer (some ⟨b1,0,none⟩)] W fun e w'=>e=.returned (.bool (nr P M))∧Up W w')) (hS:SG cM w A n X) :
    Calls Tryz.prog 67 #[.slice A n k,.func (.func 69) #[] #[.pointer (some ⟨b1,0,none⟩)]] w fun e w'=>∃ A' n' k',e=.returned (.slice A' n' k')∧n'≤n∧n'≤k'∧Nw w A'∧Up w w'∧SG cM w' A' n' (prL nr n X):=by
  have HL:=Lib.hid hS.1
  have HS:=Lib.hid hS
  have HX:=Lib.hid hX
  have HN:=Lib.hid hanti
  have KC:=Lib.hid hnr
  obtain ⟨cs,hcs,hmk⟩:=makeM0_run n (by omega) w
  have HM0:=Lib.hid (OwM.made (w0:=w) (w:=w) (Nat.le_refl _) cs n (by omega) hcs)
  have HZ0:Hid (∀ Z,prL nr n X=Z→[] ++ prL nr (n - 0) (X.drop 0)=Z):=Lib.hid (fun Z h=>h)
  obtain ⟨Z,hZ⟩:∃ Z,prL nr n X=Z:=⟨_,rfl⟩
  have HZ1:=Lib.hid (HZ0.out Z hZ)
  rw [hZ]
  clear hS hX hanti hnr hcs hZ HZ0
  go_enter Tryz.func67,Tryz.ntmps67
  go_wp2_with fail
  go_loopw [5,6] (fun t5 t6 wr=>∃ (i m:Nat) (B:Option Addr) (kb:Nat) (M:List Mrk),t5=.slice B m kb∧t6=.int .i64 i∧i≤n∧m≤i∧Hid (OwM w wr (.slice B m kb) m M)∧Hid (M ++ prL nr (n - i) (X.drop i)=Z)∧Hid (Up w wr)) (fun _ t _=>n - (intOf t).toNat)
  case atStart=>exact ⟨0,0,_,_,[],rfl,rfl,Nat.zero_le _,Nat.le_refl _,HM0,HZ1,Lib.hid ((Up.refl w).alloc _ _)⟩
  case round =>
    clear hmk HM0
    obtain ⟨i,m,B,kb,M,rfl,rfl,hin,hmi,HO,HZ,HW⟩:=hrel
    by_cases hi':i<n
    · have HSr:=Lib.hid (HS.out.up HW.out)
      obtain ⟨b,o,rfl,d0,d1,d2,d3,d4,d5,d6⟩:=mrk_at HSr.out mk0 hi'
      have HXi:=Lib.hid (HX.out i hi')
      have HP:Hid (∀ nx,i+1≤nx→(nx<n∨nx=i+1)→(i+1<nx→nr (X.getD i mk0) (X.getD nx mk0)=true)→(nx+1<n→nr (X.getD i mk0) (X.getD (nx+1) mk0)=false)→(M ++ [X.getD i mk0]) ++ prL nr (n - nx) (X.drop nx)=Z):=Lib.hid (fun nx h1 h2 h3 h4=>prune_stepG HL.out hi' (HN.out i) HZ.out h1 h2 h3 h4)
      generalize hMi:X.getD i mk0=Mi at *
      obtain ⟨sq,t,nn,s,qq,lo,hi⟩:=Mi
      have hMi:=Lib.hid hMi
      simp only at d0 d1 d2 d3 d4 d5 d6
      have f20:(i:Int)<n:=by omega
      have f30:(0:Int)≤i:=by omega
      obtain ⟨A2,k2,w2,hr,hO2,hU2⟩:=append1M w wr B m kb M sq t nn s qq lo hi HO.out HW.out (by omega)
      have HO2:=Lib.hid hO2
      have HU2:=Lib.hid hU2
      clear hO2 hU2
      go_wp2_with (refine wpList_append_run (o:=⟨some 21,_,_,_,_,_⟩) rfl (.tmp 15) (.tmp 20) _ rfl _ _ rfl rfl _ _ hr ?_)
      clear hr HO HZ HSr d0 d1 d2 d3 d4 d5 d6
      have HS2:=Lib.hid (HS.out.up HU2.out)
      go_loopw [7] (fun t7 wq=>∃ nx:Nat,t7=.int .i64 nx∧i+1≤nx∧(nx<n∨nx=i+1)∧Hid (i+1<nx→nr ⟨sq,t,nn,s,qq,lo,hi⟩ (X.getD nx mk0)=true)∧Hid (Up w2 wq)) (fun t _=>n - (intOf t).toNat)
      case atStart=>exact ⟨i+1,by go_num,by omega,Or.inr (by omega),Lib.hid (fun h=>absurd h (Nat.lt_irrefl _)),Lib.hid (Up.refl w2)⟩
      case round =>
        obtain ⟨nx,rfl,h1,h2,HC,HV⟩:=hrel
        have f31:(0:Int)≤nx:=by omega
        by_cases hx:nx+1<n
        · obtain ⟨x0,x1,x2,x3,x4,x5,x6⟩:=mrk_prev (HS2.out.up HV.out) hx
          obtain ⟨d0,d1,d2,d3,d4,d5,d6⟩:=mrk_prev (HS2.out.up HV.out) hi'
          rw [hMi.out] at d0 d1 d2 d3 d4 d5 d6
          simp only at d0 d1 d2 d3 d4 d5 d6
          have HXn:=Lib.hid (HX.out (nx+1) hx)
          have HA:Hid (nr ⟨sq,t,nn,s,qq,lo,hi⟩ (X.getD (nx+1) mk0)=true→i+1<nx+1→nr ⟨sq,t,nn,s,qq,lo,hi⟩ (X.getD (nx+1) mk0)=true):=Lib.hid (fun h _=>h)
          have HPx:=Lib.hid (HP.out nx h1 h2 HC.out)
          generalize hMn:X.getD (nx+1) mk0=Mn at *
          obtain ⟨sq1,t1,nn1,s1,qq1,lo1,hi1⟩:=Mn
          simp only at x0 x1 x2 x3 x4 x5 x6
          have hMn:=Lib.hid hMn
          have K7:=Lib.hid (KC.out ⟨sq,t,nn,s,qq,lo,hi⟩ ⟨sq1,t1,nn1,s1,qq1,lo1,hi1⟩ HXi.out HXn.out)
          simp only at K7
          have HSS:Hid (Up w2 wr∧wr.cell? ⟨b,o+i * 7,none⟩=some (.int .i64 sq)∧wr.cell? ⟨b,o+i * 7+1,none⟩=some (.int .i64 t)∧wr.cell? ⟨b,o+i * 7+2,none⟩=some (.int .i64 nn)∧wr.cell? ⟨b,o+i * 7+3,none⟩=some (.int .i64 s)∧wr.cell? ⟨b,o+i * 7+4,none⟩=some (.int .i64 qq)∧wr.cell? ⟨b,o+i * 7+5,none⟩=some (.int .i64 lo)∧wr.cell? ⟨b,o+i * 7+6,none⟩=some (.int .i64 hi)∧wr.cell? ⟨b,o+(nx+1) * 7,none⟩=some (.int .i64 sq1)∧wr.cell? ⟨b,o+(nx+1) * 7+1,none⟩=some (.int .i64 t1)∧wr.cell? ⟨b,o+(nx+1) * 7+2,none⟩=some (.int .i64 nn1)∧wr.cell? ⟨b,o+(nx+1) * 7+3,none⟩=some (.int .i64 s1)∧wr.cell? ⟨b,o+(nx+1) * 7+4,none⟩=some (.int .i64 qq1)∧wr.cell? ⟨b,o+(nx+1) * 7+5,none⟩=some (.int .i64 lo1)∧wr.cell? ⟨b,o+(nx+1) * 7+6,none⟩=some (.int .i64 hi1)):=Lib.hid ⟨HV.out,d0,d1,d2,d3,d4,d5,d6,x0,x1,x2,x3,x4,x5,x6⟩
          have f32:(nx:Int)+1<n:=by omega
          have f33:(0:Int)≤(nx:Int)+1:=by omega
          have f34:((nx:Int)+1).toNat=nx+1:=by omega
          have f35:IntKind.i64.wrap ((nx:Int)+1)=(nx:Int)+1:=by rw [IntKind.wrap_i64];omega
          clear d0 d1 d2 d3 d4 d5 d6 x0 x1 x2 x3 x4 x5 x6 HXn
          cases hk:nr ⟨sq,t,nn,s,qq,lo,hi⟩ ⟨sq1,t1,nn1,s1,qq1,lo1,hi1⟩ with
          | false =>
            have HR:=Lib.hid (HPx.out (fun _=>hk))
            rw [hk] at K7
            clear hk HPx HA HP HC
            go_wp2_with fail
            refine wp_region_held_drew (S:=fun w'=>Up w2 w'∧w'.cell? ⟨b,o+i * 7,none⟩=some (.int .i64 sq)∧w'.cell? ⟨b,o+i * 7+1,none⟩=some (.int .i64 t)∧w'.cell? ⟨b,o+i * 7+2,none⟩=some (.int .i64 nn)∧w'.cell? ⟨b,o+i * 7+3,none⟩=some (.int .i64 s)∧w'.cell? ⟨b,o+i * 7+4,none⟩=some (.int .i64 qq)∧w'.cell? ⟨b,o+i * 7+5,none⟩=some (.int .i64 lo)∧w'.cell? ⟨b,o+i * 7+6,none⟩=some (.int .i64 hi)∧w'.cell? ⟨b,o+(nx+1) * 7,none⟩=some (.int .i64 sq1)∧w'.cell? ⟨b,o+(nx+1) * 7+1,none⟩=some (.int .i64 t1)∧w'.cell? ⟨b,o+(nx+1) * 7+2,none⟩=some (.int .i64 nn1)∧w'.cell? ⟨b,o+(nx+1) * 7+3,none⟩=some (.int .i64 s1)∧w'.cell? ⟨b,o+(nx+1) * 7+4,none⟩=some (.int .i64 qq1)∧w'.cell? ⟨b,o+(nx+1) * 7+5,none⟩=some (.int .i64 lo1)∧w'.cell? ⟨b,o+(nx+1) * 7+6,none⟩=some (.int .i64 hi1)) (by kernel_rfl) ?hB263 (fun hHeld=>?_)
            case hB263=>(first | (with_reducible assumption) | (with_reducible exact keepK14 (Lib.hid (Up.refl _).drew) HSS.out) | (with_reducible exact HX3.out))
            refine takeT 0 rfl (by assumption) ?_
            (try simp only [Act.put,stpA,stpB,stpC])
            refine takeT 1 rfl (by assumption) ?_
            (try simp only [Act.put,stpA,stpB,stpC])
            refine takeT 2 rfl (by assumption) ?_
            (try simp only [Act.put,stpA,stpB,stpC])
            refine takeT 3 rfl (by assumption) ?_
            (try simp only [Act.put,stpA,stpB,stpC])
            refine takeT 4 rfl (by assumption) ?_
            (try simp only [Act.put,stpA,stpB,stpC])
            refine takeT 5 rfl (by assumption) ?_
            (try simp only [Act.put,stpA,stpB,stpC])
            refine takeT 6 rfl (by assumption) ?_
            (try simp only [Act.put,stpA,stpB,stpC])
            refine takeT 7 rfl (by assumption) ?_
            (try simp only [Act.put,stpA,stpB,stpC])
            refine takeT 8 rfl (by assumption) ?_
            (try simp only [Act.put,stpA,stpB,stpC])
            refine takeT 9 rfl (by assumption) ?_
            (try simp only [Act.put,stpA,stpB,stpC])
            refine takeT 10 rfl (by assumption) ?_
            (try simp only [Act.put,stpA,stpB,stpC])
            refine takeT 11 rfl (by assumption) ?_
            (try simp only [Act.put,stpA,stpB,stpC])
            refine takeT 12 rfl (by assumption) ?_
            (try simp only [Act.put,stpA,stpB,stpC])
            refine takeT 13 rfl (by assumption) ?_
            (try simp only [Act.put,stpA,stpB,stpC])
            refine takeT 14 rfl (by assumption) ?_
            (try simp only [Act.put,stpA,stpB,stpC])
            refine takeT 15 rfl (by assumption) ?_
            (try simp only [Act.put,stpA,stpB,stpC])
            refine wpAnyH_ready (rs:=[16]) (by kernel_rfl) (by simp) ?_
            refine AllReadyH.cons (o:=⟨_,_,_,_,_,_⟩) rfl (fun K hK=>?_) AllReadyH.nil
            go_simp
            (go_at_call 69;(with_reducible refine (K7.out _ (HU2.out.trans hHeld.1)).mono ?_);rintro e w3 ⟨rfl,hu⟩;have HU3:=Lib.hid hu;have HX3:=Lib.hid (keepK14 HU3 hHeld);clear hu)
            (try go_wp2_with fail)
            refine hK.out _ _ ?hB280 (fun hHeld=>?_)
            case hB280=>(first | (with_reducible assumption) | (with_reducible exact keepK14 (Lib.hid (Up.refl _).drew) HSS.out) | (with_reducible exact HX3.out))
            clear hK K
            (try simp only [Act.put,stpA,stpB,stpC])
            refine takeT 17 rfl (by assumption) ?_
            (try simp only [Act.put,stpA,stpB,stpC])
            refine wpAnyH_done (by kernel_rfl) ?_ _
            have UX:=Lib.hid hHeld.1
            (repeat clear ‹Up w2 _∧_›)
            go_wp2_with fail
            go_roundw
            case rel=>exact ⟨nx,m+1,A2,k2,_,rfl,by go_num,by omega,by omega,Lib.hid ⟨HO2.out.1,HO2.out.2.of_up UX.out⟩,HR,Lib.hid (HU2.out.trans UX.out)⟩
            case measure=>simp [intOf];omega
          | true =>
            have HC2:Hid (i+1<nx+1→nr ⟨sq,t,nn,s,qq,lo,hi⟩ (X.getD (nx+1) mk0)=true):=Lib.hid (fun _=>by rw [hMn.out];exact hk)
            rw [hk] at K7
            clear hk HPx HA HP HC
            go_wp2_with fail
            refine wp_region_held_drew (S:=fun w'=>Up w2 w'∧w'.cell? ⟨b,o+i * 7,none⟩=some (.int .i64 sq)∧w'.cell? ⟨b,o+i * 7+1,none⟩=some (.int .i64 t)∧w'.cell? ⟨b,o+i * 7+2,none⟩=some (.int .i64 nn)∧w'.cell? ⟨b,o+i * 7+3,none⟩=some (.int .i64 s)∧w'.cell? ⟨b,o+i * 7+4,none⟩=some (.int .i64 qq)∧w'.cell? ⟨b,o+i * 7+5,none⟩=some (.int .i64 lo)∧w'.cell? ⟨b,o+i * 7+6,none⟩=some (.int .i64 hi)∧w'.cell? ⟨b,o+(nx+1) * 7,none⟩=some (.int .i64 sq1)∧w'.cell? ⟨b,o+(nx+1) * 7+1,none⟩=some (.int .i64 t1)∧w'.cell? ⟨b,o+(nx+1) * 7+2,none⟩=some (.int .i64 nn1)∧w'.cell? ⟨b,o+(nx+1) * 7+3,none⟩=some (.int .i64 s1)∧w'.cell? ⟨b,o+(nx+1) * 7+4,none⟩=some (.int .i64 qq1)∧w'.cell? ⟨b,o+(nx+1) * 7+5,none⟩=some (.int .i64 lo1)∧w'.cell? ⟨b,o+(nx+1) * 7+6,none⟩=some (.int .i64 hi1)) (by kernel_rfl) ?hB282 (fun hHeld=>?_)
            case hB282=>(first | (with_reducible assumption) | (with_reducible exact keepK14 (Lib.hid (Up.refl _).drew) HSS.out) | (with_reducible exact HX3.out))
            refine takeT 0 rfl (by assumption) ?_
            (try simp only [Act.put,stpA,stpB,stpC])
            refine takeT 1 rfl (by assumption) ?_
            (try simp only [Act.put,stpA,stpB,stpC])
            refine takeT 2 rfl (by assumption) ?_
            (try simp only [Act.put,stpA,stpB,stpC])
            refine takeT 3 rfl (by assumption) ?_
            (try simp only [Act.put,stpA,stpB,stpC])
            refine takeT 4 rfl (by assumption) ?_
            (try simp only [Act.put,stpA,stpB,stpC])
            refine takeT 5 rfl (by assumption) ?_
            (try simp only [Act.put,stpA,stpB,stpC])
            refine takeT 6 rfl (by assumption) ?_
            (try simp only [Act.put,stpA,stpB,stpC])
            refine takeT 7 rfl (by assumption) ?_
            (try simp only [Act.put,stpA,stpB,stpC])
            refine takeT 8 rfl (by assumption) ?_
            (try simp only [Act.put,stpA,stpB,stpC])
            refine takeT 9 rfl (by assumption) ?_
            (try simp only [Act.put,stpA,stpB,stpC])
            refine takeT 10 rfl (by assumption) ?_
            (try simp only [Act.put,stpA,stpB,stpC])
            refine takeT 11 rfl (by assumption) ?_
            (try simp only [Act.put,stpA,stpB,stpC])
            refine takeT 12 rfl (by assumption) ?_
            (try simp only [Act.put,stpA,stpB,stpC])
            refine takeT 13 rfl (by assumption) ?_
            (try simp only [Act.put,stpA,stpB,stpC])
            refine takeT 14 rfl (by assumption) ?_
            (try simp only [Act.put,stpA,stpB,stpC])
            refine takeT 15 rfl (by assumption) ?_
            (try simp only [Act.put,stpA,stpB,stpC])
            refine wpAnyH_ready (rs:=[16]) (by kernel_rfl) (by simp) ?_
            refine AllReadyH.cons (o:=⟨_,_,_,_,_,_⟩) rfl (fun K hK=>?_) AllReadyH.nil
            go_simp
            (go_at_call 69;(with_reducible refine (K7.out _ (HU2.out.trans hHeld.1)).mono ?_);rintro e w3 ⟨rfl,hu⟩;have HU3:=Lib.hid hu;have HX3:=Lib.hid (keepK14 HU3 hHeld);clear hu)
            (try go_wp2_with fail)
            refine hK.out _ _ ?hB299 (fun hHeld=>?_)
            case hB299=>(first | (with_reducible assumption) | (with_reducible exact keepK14 (Lib.hid (Up.refl _).drew) HSS.out) | (with_reducible exact HX3.out))
            clear hK K
            (try simp only [Act.put,stpA,stpB,stpC])
            refine takeT 17 rfl (by assumption) ?_
            (try simp only [Act.put,stpA,stpB,stpC])
            refine wpAnyH_done (by kernel_rfl) ?_ _
            have UX:=Lib.hid hHeld.1
            (repeat clear ‹Up w2 _∧_›)
            go_wp2_with fail
            go_roundw
            case rel=>exact ⟨nx+1,by go_num,by omega,Or.inl (by omega),HC2,UX⟩
            case measure=>simp [intOf];omega
        · have HR:=Lib.hid (HP.out nx h1 h2 HC.out (fun h=>absurd h hx))
          have t1:decide ((nx:Int)+1<n)=false:=decide_eq_false (by omega)
          have f35:IntKind.i64.wrap ((nx:Int)+1)=(nx:Int)+1:=by rw [IntKind.wrap_i64];omega
          have HSS:Hid (Up w2 wr∧True):=Lib.hid ⟨HV.out,trivial⟩
          clear HP HC
          go_wp2_with fail
          refine wp_region_held_drew (S:=fun w'=>Up w2 w'∧True) (by kernel_rfl) ?hB301 (fun hHeld=>?_)
          case hB301=>(first | (with_reducible assumption) | exact ⟨HSS.out.1.drew,trivial⟩)
          refine takeT 0 rfl (by assumption) ?_
          (try simp only [Act.put,stpA,stpB,stpC])
          refine takeT 1 rfl (by assumption) ?_
          (try simp only [Act.put,stpA,stpB,stpC])
          refine takeT 2 rfl (by assumption) ?_
          (try simp only [Act.put,stpA,stpB,stpC])
          refine takeT 3 rfl (by assumption) ?_
          (try simp only [Act.put,stpA,stpB,stpC])
          refine takeT 4 rfl (by assumption) ?_
          (try simp only [Act.put,stpA,stpB,stpC])
          refine takeT 5 rfl (by assumption) ?_
          (try simp only [Act.put,stpA,stpB,stpC])
          refine takeU 6 rfl (by assumption) ?_
          (try simp only [Act.put,stpA,stpB,stpC])
          refine takeU 7 rfl (by assumption) ?_
          (try simp only [Act.put,stpA,stpB,stpC])
          refine takeU 8 rfl (by assumption) ?_
          (try simp only [Act.put,stpA,stpB,stpC])
          refine takeU 9 rfl (by assumption) ?_
          (try simp only [Act.put,stpA,stpB,stpC])
          refine takeU 10 rfl (by assumption) ?_
          (try simp only [Act.put,stpA,stpB,stpC])
          refine takeU 11 rfl (by assumption) ?_
          (try simp only [Act.put,stpA,stpB,stpC])
          refine takeU 12 rfl (by assumption) ?_
          (try simp only [Act.put,stpA,stpB,stpC])
          refine takeU 13 rfl (by assumption) ?_
          (try simp only [Act.put,stpA,stpB,stpC])
          refine takeU 14 rfl (by assumption) ?_
          (try simp only [Act.put,stpA,stpB,stpC])
          refine takeU 15 rfl (by assumption) ?_
          (try simp only [Act.put,stpA,stpB,stpC])
          refine takeU 16 rfl (by assumption) ?_
          (try simp only [Act.put,stpA,stpB,stpC])
          refine takeT 17 rfl (by assumption) ?_
          (try simp only [Act.put,stpA,stpB,stpC])
          refine wpAnyH_done (by kernel_rfl) ?_ _
          have UX:=Lib.hid hHeld.1
          (repeat clear ‹Up w2 _∧_›)
          go_wp2_with fail
          go_roundw
          case rel=>exact ⟨nx,m+1,A2,k2,_,rfl,by go_num,by omega,by omega,Lib.hid ⟨HO2.out.1,HO2.out.2.of_up UX.out⟩,HR,Lib.hid (HU2.out.trans UX.out)⟩
          case measure=>simp [intOf];omega
    · obtain rfl:i=n:=by omega
      go_wp2_with fail
      go_ret
      refine ⟨B,m,kb,rfl,hmi,(OG.sg HO.out).1,OG.nw HO.out,HW.out,?_⟩
      have h:=(OG.sg HO.out).2
      have e:=HZ.out
      rw [Nat.sub_self,show X.drop i=[] from List.drop_eq_nil_of_le (by rw [HL.out];exact Nat.le_refl _),prL_nil,List.append_nil] at e
      rw [← e]
      exact h
end Go.Proofs.YtafkoddgefcpnaaGreat
