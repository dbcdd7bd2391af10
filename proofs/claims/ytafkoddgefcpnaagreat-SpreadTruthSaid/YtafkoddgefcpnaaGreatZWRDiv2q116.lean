/- What the reference's Div returns. -/
import Derived.Test.YtafkoddgefcpnaaGreatRows
import Derived.Test.YtafkoddgefcpnaaGreatZWRDivq115
namespace Go.Proofs.YtafkoddgefcpnaaGreat
open Go.RowKit

/-- The cells of the six numbers that the walk of the reference's Div holds. -/
structure Dv (w wr:World) (ah al bh bl q r:Int):Prop where
  up:Up w wr
  a0:wr.cell? ⟨w.heap.size,0,none⟩=some (.int .u64 ah)
  a1:wr.cell? ⟨w.heap.size,1,none⟩=some (.int .u64 al)
  b0:wr.cell? ⟨w.heap.size+1,0,none⟩=some (.int .u64 bh)
  b1:wr.cell? ⟨w.heap.size+1,1,none⟩=some (.int .u64 bl)
  s0:wr.cell? ⟨w.heap.size+1+1,0,none⟩=some (.int .u64 0)
  s1:wr.cell? ⟨w.heap.size+1+1,1,none⟩=some (.int .u64 0)
  t0:wr.cell? ⟨w.heap.size+1+1+1,0,none⟩=some (.int .u64 0)
  t1:wr.cell? ⟨w.heap.size+1+1+1,1,none⟩=some (.int .u64 0)
  q0:wr.cell? ⟨w.heap.size+1+1+1+1,0,none⟩=some (.int .u64 (hiZ q))
  q1:wr.cell? ⟨w.heap.size+1+1+1+1,1,none⟩=some (.int .u64 (loZ q))
  r0:wr.cell? ⟨w.heap.size+1+1+1+1+1,0,none⟩=some (.int .u64 (hiZ r))
  r1:wr.cell? ⟨w.heap.size+1+1+1+1+1,1,none⟩=some (.int .u64 (loZ r))
theorem Dv.keep {w w1 w2:World} {ah al bh bl q r:Int} (h:Dv w w1 ah al bh bl q r) (hu:Up w1 w2):Dv w w2 ah al bh bl q r :=
  ⟨h.up.trans hu,hu.keep _ _ _ h.a0,hu.keep _ _ _ h.a1,hu.keep _ _ _ h.b0,hu.keep _ _ _ h.b1,hu.keep _ _ _ h.s0,hu.keep _ _ _ h.s1,hu.keep _ _ _ h.t0,hu.keep _ _ _ h.t1,hu.keep _ _ _ h.q0,hu.keep _ _ _ h.q1,hu.keep _ _ _ h.r0,hu.keep _ _ _ h.r1⟩
theorem two_sets {w:World} {b:Nat} {u0 u1 v0 v1:Value} (h0:w.cell? ⟨b,0,none⟩=some u0) (h1:w.cell? ⟨b,1,none⟩=some u1) :
    ((w.setCell ⟨b,0,none⟩ v0).setCell ⟨b,1,none⟩ v1).cell? ⟨b,0,none⟩=some v0∧((w.setCell ⟨b,0,none⟩ v0).setCell ⟨b,1,none⟩ v1).cell? ⟨b,1,none⟩=some v1:=by
  constructor
  · rw [cell_set (u:=v0) (by rw [cell_set h0,if_pos rfl]),if_neg (by omega)]
  · rw [cell_set (u:=u1) (by rw [cell_set h1,if_neg (by omega)]),if_pos rfl]
theorem far2 {w:World} {b c o:Nat} {v0 v1:Value} (h:c ≠ b):((w.setCell ⟨c,0,none⟩ v0).setCell ⟨c,1,none⟩ v1).cell? ⟨b,o,none⟩=w.cell? ⟨b,o,none⟩:=by
  rw [cell_far h,cell_far h]
theorem Dv.setR {w w1:World} {ah al bh bl q r r':Int} (h:Dv w w1 ah al bh bl q r) :
    Dv w ((w1.setCell ⟨w.heap.size+1+1+1+1+1,0,none⟩ (.int .u64 (hiZ r'))).setCell ⟨w.heap.size+1+1+1+1+1,1,none⟩ (.int .u64 (loZ r'))) ah al bh bl q r' :=
  ⟨(h.up.setCell (by show w.heap.size≤w.heap.size+1+1+1+1+1;omega) _).setCell (by show w.heap.size≤w.heap.size+1+1+1+1+1;omega) _,
    (far2 (by omega)).trans h.a0,(far2 (by omega)).trans h.a1,(far2 (by omega)).trans h.b0,(far2 (by omega)).trans h.b1,(far2 (by omega)).trans h.s0,(far2 (by omega)).trans h.s1,(far2 (by omega)).trans h.t0,(far2 (by omega)).trans h.t1,(far2 (by omega)).trans h.q0,(far2 (by omega)).trans h.q1,
    (two_sets h.r0 h.r1).1,(two_sets h.r0 h.r1).2⟩
theorem Dv.setQ {w w1:World} {ah al bh bl q r q':Int} (h:Dv w w1 ah al bh bl q r) :
    Dv w ((w1.setCell ⟨w.heap.size+1+1+1+1,0,none⟩ (.int .u64 (hiZ q'))).setCell ⟨w.heap.size+1+1+1+1,1,none⟩ (.int .u64 (loZ q'))) ah al bh bl q' r :=
  ⟨(h.up.setCell (by show w.heap.size≤w.heap.size+1+1+1+1;omega) _).setCell (by show w.heap.size≤w.heap.size+1+1+1+1;omega) _,
    (far2 (by omega)).trans h.a0,(far2 (by omega)).trans h.a1,(far2 (by omega)).trans h.b0,(far2 (by omega)).trans h.b1,(far2 (by omega)).trans h.s0,(far2 (by omega)).trans h.s1,(far2 (by omega)).trans h.t0,(far2 (by omega)).trans h.t1,
    (two_sets h.q0 h.q1).1,(two_sets h.q0 h.q1).2,(far2 (by omega)).trans h.r0,(far2 (by omega)).trans h.r1⟩
theorem Dv.drew {w w1:World} {ah al bh bl q r:Int} (h:Dv w w1 ah al bh bl q r):Dv w w1.drew ah al bh bl q r:=h.keep (Up.refl _).drew

/-- The words of what is left when the divisor is taken away. -/
theorem away_words {x D bh bl:Int} (hD:D=x % 340282366920938463463374607431768211456) (h3:Word bh) (h4:Word bl) (h0:val bh bl≤x) (hr:x - val bh bl<340282366920938463463374607431768211456) :
    (hiZ D - bh - bor (loZ D) bl) % 18446744073709551616=hiZ (x - val bh bl)∧(loZ D - bl) % 18446744073709551616=loZ (x - val bh bl):=by
  have hh:(loZ D<bl∧bor (loZ D) bl=1)∨(¬ loZ D<bl∧bor (loZ D) bl=0):=by
    unfold bor;by_cases h:loZ D<bl
    · exact Or.inl ⟨h,if_pos h⟩
    · exact Or.inr ⟨h,if_neg h⟩
  generalize bor (loZ D) bl=z at *
  obtain ⟨c1,c2⟩:=h3;obtain ⟨d1,d2⟩:=h4
  unfold hiZ loZ val at *
  subst hD
  exact ⟨by omega,by omega⟩

set_option maxHeartbeats 4000000 in
set_option maxRecDepth 100000 in
theorem rdiv_pos (ah al bh bl:Int) (h1:Word ah) (h2:Word al) (h3:Word bh) (h4:Word bl) (hb:val bh bl ≠ 0) (hz:(bh == 0)=false∨((bh == 0)=true∧(bl == 0)=false)) (w:World) :
    Calls Tryz.prog 104 #[.agg #[.int .u64 ah,.int .u64 al],.agg #[.int .u64 bh,.int .u64 bl]] w fun e w' =>
      e=.returned (.tuple #[.agg #[.int .u64 (hiZ (val ah al / val bh bl)),.int .u64 (loZ (val ah al / val bh bl))],.agg #[.int .u64 (hiZ (val ah al % val bh bl)),.int .u64 (loZ (val ah al % val bh bl))],.bool true])∧Up w w':=by
  have ha:=val_in h1 h2
  have hvb:=val_in h3 h4
  have hb0:0<val bh bl:=by obtain ⟨x,_⟩:=hvb;omega
  have p128:(2:Int) ^ 128=340282366920938463463374607431768211456:=by decide
  have h128:val ah al / 2 ^ 128=0:=by rw [p128];exact Int.ediv_eq_zero_of_lt ha.1 ha.2
  have H128:=Lib.hid h128
  clear p128 h128
  rcases hz with tz | ⟨tz,ty⟩
  all_goals
    clear hb
    go_enter Tryz.func104,Tryz.ntmps104
    go_wp2_with fail
    go_loopw [9] (fun u wr=>∃ (m:Nat) (q r:Int),u=.int .i64 ((m:Int) - 1)∧m≤128∧Hid (q=val ah al / 2 ^ m / val bh bl)∧Hid (r=val ah al / 2 ^ m % val bh bl)∧Dv w wr ah al bh bl q r) (fun u _=>(intOf u+1).toNat)
    case atStart =>
      refine ⟨128,0,0,rfl,by omega,Lib.hid ?_,Lib.hid ?_,?_⟩
      · rw [H128.out];simp
      · rw [H128.out];simp
      · refine ⟨?_,by simp [go_sem],by simp [go_sem],by simp [go_sem],by simp [go_sem],by simp [go_sem],by simp [go_sem],by simp [go_sem],by simp [go_sem],by simp [go_sem,hiZ_0],by simp [go_sem,loZ_0],by simp [go_sem,hiZ_0],by simp [go_sem,loZ_0]⟩
        repeat (first | exact Up.refl _ | refine Up.alloc ?_ _ _ | refine Up.setCell ?_ (by first | (simp;done) | (simp;omega) | omega) _ | refine Up.drewN ?_ _ | refine Up.drew ?_)
    case round =>
      obtain ⟨m,q,r,rfl,m1,HQ,HR,hD⟩:=hrel
      have za:=hD.up.own 5 0
      have zb:=hD.up.own 5 1
      have zc:=hD.up.own 4 0
      have zd:=hD.up.own 4 1
      rw [show w.heap.size+5=w.heap.size+1+1+1+1+1 by omega] at za zb
      rw [show w.heap.size+4=w.heap.size+1+1+1+1 by omega] at zc zd
      have hr0:0≤r:=by rw [HR.out];exact Int.emod_nonneg _ (by omega)
      have hr1:r<val bh bl:=by rw [HR.out];exact Int.emod_lt_of_pos _ hb0
      by_cases hm:1≤m
      · obtain ⟨i,rfl⟩:∃ i,m=i+1:=⟨m - 1,by omega⟩
        rw [show (((i+1:Nat):Int) - 1)=(i:Int) by omega]
        have hsh:=div_shift (val ah al) i
        have hc:=bitZ_01 (val ah al) (i:Int)
        have HB:=Lib.hid (fun W=>bit_up ah al (i:Int) h1 h2 (by omega) (by omega) W)
        generalize bitZ (val ah al) (i:Int)=c at *
        have hrd:=round_div (a:=val ah al / 2 ^ (i+1)) hb0 HQ.out HR.out hc.1 hc.2
        rw [← hsh] at hrd
        have hq0:0≤val ah al / 2 ^ i / val bh bl:=Int.ediv_nonneg (Int.ediv_nonneg ha.1 (by have:=pow_pos2 i;omega)) (by omega)
        have hq1:val ah al / 2 ^ i / val bh bl<340282366920938463463374607431768211456:=Int.lt_of_le_of_lt (Int.le_trans (Int.ediv_le_self _ (Int.ediv_nonneg ha.1 (by have:=pow_pos2 i;omega))) (Int.ediv_le_self _ ha.1)) ha.2
        have ir:In2 r:=by unfold In2 at *;omega
        have HDb:=Lib.hid (show ∀ W,Calls Tryz.prog 116 #[.agg #[.int .u64 (hiZ r),.int .u64 (loZ r)],.int .u64 c] W fun e w'=>e=.returned (.tuple #[.agg #[.int .u64 (hiZ (dblZ r c)),.int .u64 (loZ (dblZ r c))],.int .u64 (hiZ r / 9223372036854775808)])∧Up W w' from fun W=>by
          have h:=double_up (hiZ r) (loZ r) c (hiZ_word ir) (loZ_word r) hc.1 hc.2 W
          rw [val_hilo] at h
          exact h)
        have HRD:=Lib.hid hrd
        have HHQ:=Lib.hid (And.intro hq0 hq1)
        have HDV:=Lib.hid hD
        have r0:=hD.r0
        have r1:=hD.r1
        have a0:=hD.a0
        have a1:=hD.a1
        obtain ⟨c0,c1⟩:=hc
        clear hsh hrd hq0 hq1 hD
        go_upto_region 8 with fail
        go_cut [10] (fun t wx=>t=.int .u64 (hiZ r / 9223372036854775808)∧Dv w wx ah al bh bl q (dblZ r c))
        case first =>
          go_region_with (first
            | (go_at_call 117;(with_reducible refine (HB.out _).mono ?_);rintro e w2 ⟨rfl,hu2⟩;have HU2:=Lib.hid hu2;have r0':=hu2.keep _ _ _ (show wr.drew.cell? _=_ from r0);have r1':=hu2.keep _ _ _ (show wr.drew.cell? _=_ from r1);have za':=(hu2.cells.2 _).trans za;have zb':=(hu2.cells.2 _).trans zb;clear hu2)
            | (go_at_call 116;(with_reducible refine (HDb.out _).mono ?_);rintro e w3 ⟨rfl,hu3⟩;have HU3:=Lib.hid hu3;have r0'':=hu3.keep _ _ _ r0';have r1'':=hu3.keep _ _ _ r1';have za'':=(hu3.cells.2 _).trans za';have zb'':=(hu3.cells.2 _).trans zb';clear hu3))
          all_goals
            go_wp2_with fail
            go_meet
            exact ⟨rfl,((HDV.out.drew.keep HU2.out).keep HU3.out).setR⟩
        obtain ⟨rfl,hD'⟩:=hcut
        have HDV':=Lib.hid hD'
        have r0':=hD'.r0
        have r1':=hD'.r1
        have b0':=hD'.b0
        have b1':=hD'.b1
        have q0:=hD'.q0
        have q1:=hD'.q1
        have za':=hD'.up.own 5 0
        have zb':=hD'.up.own 5 1
        rw [show w.heap.size+5=w.heap.size+1+1+1+1+1 by omega] at za' zb'
        obtain ⟨u1,u2⟩:=hiZ_word (dblZ_in r c)
        obtain ⟨v1,v2⟩:=loZ_word (dblZ r c)
        obtain ⟨k0,k1⟩:=bor_01 (loZ (dblZ r c)) bl
        obtain ⟨c1',c2'⟩:=id h3
        obtain ⟨d1',d2'⟩:=id h4
        clear hD' za zb zc zd r0 r1 a0 a1 HDb HB
        by_cases ho:hiZ r / 9223372036854775808=0
        case neg =>
          have tov:(hiZ r / 9223372036854775808 != 0)=true:=bne_iff_ne.2 ho
          have hx:val bh bl≤2 * r+c:=by unfold hiZ at ho;unfold In2 at *;omega
          obtain ⟨g1,g2⟩:=HRD.out.1 hx
          obtain ⟨E1,E2⟩:=away_words (x:=2 * r+c) (D:=dblZ r c) rfl h3 h4 hx (by unfold In2 at *;omega)
          have HG1:=Lib.hid (show dblZ q 1=val ah al / 2 ^ i / val bh bl by have:=HHQ.out;rw [g1] at this ⊢;unfold dblZ;omega)
          have HG2:=Lib.hid g2.symm
          have iq:In2 q:=by have:=HHQ.out;rw [g1] at this;unfold In2;omega
          have HDq:=Lib.hid (show ∀ W,Calls Tryz.prog 116 #[.agg #[.int .u64 (hiZ q),.int .u64 (loZ q)],.int .u64 1] W fun e w'=>e=.returned (.tuple #[.agg #[.int .u64 (hiZ (dblZ q 1)),.int .u64 (loZ (dblZ q 1))],.int .u64 (hiZ q / 9223372036854775808)])∧Up W w' from fun W=>by
            have h:=double_up (hiZ q) (loZ q) 1 (hiZ_word iq) (loZ_word q) (by decide) (by decide) W
            rw [val_hilo] at h
            exact h)
          generalize hX:2 * r+c - val bh bl=x at *
          clear g1 g2 hx hX iq
          have HDW:=HDV'
          go_wp2_with (first | simp only [sub64_0 (loZ (dblZ r c)) bl v1 d1' d2'] | simp only [sub64 (hiZ (dblZ r c)) bh _ u1 c1' c2' k0 k1])
          refine (HDq.out _).mono ?_
          rintro e w5 ⟨rfl,hu5⟩
          have hD2:=(Dv.setR (r':=x) HDW.out).keep hu5
          have q0':=hD2.q0
          have q1':=hD2.q1
          have zc':=hD2.up.own 4 0
          have zd':=hD2.up.own 4 1
          rw [show w.heap.size+4=w.heap.size+1+1+1+1 by omega] at zc' zd'
          have HD2:=Lib.hid hD2
          clear hD2 hu5
          go_wp2_with fail
          go_roundw
          case rel=>exact ⟨i,dblZ q 1,x,rfl,by omega,HG1,HG2,HD2.out.setQ⟩
          case measure=>simp only [intOf];omega
        have tov:(hiZ r / 9223372036854775808 != 0)=false:=bne_eq_false_iff_eq.2 ho
        have hdx:dblZ r c=2 * r+c:=by unfold dblZ hiZ In2 at *;omega
        have HC:=Lib.hid (show ∀ W,Calls Tryz.prog 72 #[.agg #[.int .u64 (hiZ (dblZ r c)),.int .u64 (loZ (dblZ r c))],.agg #[.int .u64 bh,.int .u64 bl]] W fun e w'=>e=.returned (.int .i64 (cmpZ (dblZ r c) (val bh bl)))∧Up W w' from fun W=>by
          have h:=rcompare_up (hiZ (dblZ r c)) (loZ (dblZ r c)) bh bl (hiZ_word (dblZ_in r c)) (loZ_word _) h3 h4 W
          rw [val_hilo] at h
          exact h)
        by_cases hge:val bh bl≤2 * r+c
        · have tc:decide (0≤cmpZ (dblZ r c) (val bh bl))=true:=decide_eq_true (by have:=cmpZ_neg (dblZ r c) (val bh bl);omega)
          have hx:val bh bl≤2 * r+c:=by exact hge
          obtain ⟨g1,g2⟩:=HRD.out.1 hx
          obtain ⟨E1,E2⟩:=away_words (x:=2 * r+c) (D:=dblZ r c) rfl h3 h4 hx (by unfold In2 at *;omega)
          have HG1:=Lib.hid (show dblZ q 1=val ah al / 2 ^ i / val bh bl by have:=HHQ.out;rw [g1] at this ⊢;unfold dblZ;omega)
          have HG2:=Lib.hid g2.symm
          have iq:In2 q:=by have:=HHQ.out;rw [g1] at this;unfold In2;omega
          have HDq:=Lib.hid (show ∀ W,Calls Tryz.prog 116 #[.agg #[.int .u64 (hiZ q),.int .u64 (loZ q)],.int .u64 1] W fun e w'=>e=.returned (.tuple #[.agg #[.int .u64 (hiZ (dblZ q 1)),.int .u64 (loZ (dblZ q 1))],.int .u64 (hiZ q / 9223372036854775808)])∧Up W w' from fun W=>by
            have h:=double_up (hiZ q) (loZ q) 1 (hiZ_word iq) (loZ_word q) (by decide) (by decide) W
            rw [val_hilo] at h
            exact h)
          generalize hX:2 * r+c - val bh bl=x at *
          clear g1 g2 hx hX iq
          clear ho hdx hge
          go_wp2_with fail
          refine (HC.out _).mono ?_
          rintro e w4 ⟨rfl,hu4⟩
          have HDW:=Lib.hid (HDV'.out.keep hu4)
          have r0'':=HDW.out.r0
          have r1'':=HDW.out.r1
          have b0'':=HDW.out.b0
          have b1'':=HDW.out.b1
          have q0'':=HDW.out.q0
          have q1'':=HDW.out.q1
          have za'':=(hu4.cells.2 _).trans za'
          have zb'':=(hu4.cells.2 _).trans zb'
          clear hu4 r0' r1' b0' b1' q0 q1 za' zb'
          go_wp2_with (first | simp only [sub64_0 (loZ (dblZ r c)) bl v1 d1' d2'] | simp only [sub64 (hiZ (dblZ r c)) bh _ u1 c1' c2' k0 k1])
          refine (HDq.out _).mono ?_
          rintro e w5 ⟨rfl,hu5⟩
          have hD2:=(Dv.setR (r':=x) HDW.out).keep hu5
          have q0':=hD2.q0
          have q1':=hD2.q1
          have zc':=hD2.up.own 4 0
          have zd':=hD2.up.own 4 1
          rw [show w.heap.size+4=w.heap.size+1+1+1+1 by omega] at zc' zd'
          have HD2:=Lib.hid hD2
          clear hD2 hu5
          go_wp2_with fail
          go_roundw
          case rel=>exact ⟨i,dblZ q 1,x,rfl,by omega,HG1,HG2,HD2.out.setQ⟩
          case measure=>simp only [intOf];omega
        · have tc:decide (0≤cmpZ (dblZ r c) (val bh bl))=false:=decide_eq_false (by have:=cmpZ_neg (dblZ r c) (val bh bl);omega)
          obtain ⟨g1,g2⟩:=HRD.out.2 (by omega)
          have HG1:=Lib.hid (show dblZ q 0=val ah al / 2 ^ i / val bh bl by have:=HHQ.out;rw [g1] at this ⊢;unfold dblZ;omega)
          have HG2:=Lib.hid (show dblZ r c=val ah al / 2 ^ i % val bh bl by rw [g2,hdx])
          have iq:In2 q:=by have:=HHQ.out;rw [g1] at this;unfold In2;omega
          have HDq:=Lib.hid (show ∀ W,Calls Tryz.prog 116 #[.agg #[.int .u64 (hiZ q),.int .u64 (loZ q)],.int .u64 0] W fun e w'=>e=.returned (.tuple #[.agg #[.int .u64 (hiZ (dblZ q 0)),.int .u64 (loZ (dblZ q 0))],.int .u64 (hiZ q / 9223372036854775808)])∧Up W w' from fun W=>by
            have h:=double_up (hiZ q) (loZ q) 0 (hiZ_word iq) (loZ_word q) (by decide) (by decide) W
            rw [val_hilo] at h
            exact h)
          clear g1 g2 iq ho hdx hge
          go_wp2_with fail
          refine (HC.out _).mono ?_
          rintro e w4 ⟨rfl,hu4⟩
          have HDW:=Lib.hid (HDV'.out.keep hu4)
          have q0'':=HDW.out.q0
          have q1'':=HDW.out.q1
          clear hu4 r0' r1' b0' b1' q0 q1 za' zb'
          go_wp2_with fail
          refine (HDq.out _).mono ?_
          rintro e w5 ⟨rfl,hu5⟩
          have hD2:=HDW.out.keep hu5
          have q0':=hD2.q0
          have q1':=hD2.q1
          have zc':=hD2.up.own 4 0
          have zd':=hD2.up.own 4 1
          rw [show w.heap.size+4=w.heap.size+1+1+1+1 by omega] at zc' zd'
          have HD2:=Lib.hid hD2
          clear hD2 hu5
          go_wp2_with fail
          go_roundw
          case rel=>exact ⟨i,dblZ q 0,dblZ r c,rfl,by omega,HG1,HG2,HD2.out.setQ⟩
          case measure=>simp only [intOf];omega
      · obtain rfl:m=0:=by omega
        have e1:q=val ah al / val bh bl:=by rw [HQ.out,Int.pow_zero,Int.ediv_one]
        have e2:r=val ah al % val bh bl:=by rw [HR.out,Int.pow_zero,Int.ediv_one]
        have HE:=Lib.hid (And.intro e1 e2)
        have q0:=hD.q0
        have q1:=hD.q1
        have r0:=hD.r0
        have r1:=hD.r1
        have s0:=hD.s0
        have s1:=hD.s1
        have t0:=hD.t0
        have t1:=hD.t1
        have ze:=hD.up.own 2 0
        have zf:=hD.up.own 2 1
        have zg:=hD.up.own 3 0
        have zh:=hD.up.own 3 1
        rw [show w.heap.size+2=w.heap.size+1+1 by omega] at ze zf
        rw [show w.heap.size+3=w.heap.size+1+1+1 by omega] at zg zh
        have HU:=Lib.hid hD.up
        clear e1 e2 hD
        go_wp2_with fail
        go_region
        all_goals
          go_wp2_with fail
          refine bodyPost_ret (v:=.tuple #[.agg #[.int .u64 (hiZ q),.int .u64 (loZ q)],.agg #[.int .u64 (hiZ r),.int .u64 (loZ r)],.bool true]) (by simp [results,Tryz.results104,go_sem,s0,s1,t0,t1]) rfl ⟨?_,?_⟩
          · rw [← HE.out.1,← HE.out.2]
          · repeat (first | exact Up.refl _ | (refine Up.trans ?_ (HU.out);skip) | refine Up.alloc ?_ _ _ | refine Up.setCell ?_ (by first | (simp;done) | (simp;omega) | omega) _ | refine Up.drewN ?_ _ | refine Up.drew ?_)

end Go.Proofs.YtafkoddgefcpnaaGreat
