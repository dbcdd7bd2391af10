/- Texts of these claims, one after the other. -/
import Derived.Test.YtafkoddgefcpnaaGreatRows
import Derived.Test.YtafkoddgefcpnaaGreatZWDivideq114
import Derived.Test.YtafkoddgefcpnaaGreatZWRDiv2q116
namespace Go.Proofs.YtafkoddgefcpnaaGreat
open Go.RowKit

theorem div_v (x y:Int) (hx:In2 x) (hy:In2 y) (h0:y ≠ 0) (w:World) :
    Calls Tryz.prog 112 #[.agg #[.int .u64 (hiZ x),.int .u64 (loZ x)],.agg #[.int .u64 (hiZ y),.int .u64 (loZ y)]] w fun e w' =>
      e=.returned (.tuple #[.agg #[.int .u64 (hiZ (x / y)),.int .u64 (loZ (x / y))],.agg #[.int .u64 (hiZ (x % y)),.int .u64 (loZ (x % y))],.bool true])∧Up w w':=by
  have h:=div_pos (hiZ x) (loZ x) (hiZ y) (loZ y) (hiZ_word hx) (loZ_word x) (hiZ_word hy) (loZ_word y) (by rw [val_hilo];exact h0) w
  rw [val_hilo,val_hilo] at h
  exact h
theorem tests_v {y:Int} (h0:y ≠ 0):(hiZ y == 0)=false∨((hiZ y == 0)=true∧(loZ y == 0)=false):=by
  by_cases z1:hiZ y=0
  · exact Or.inr ⟨beq_iff_eq.2 z1,beq_eq_false_iff_ne.2 (fun h=>h0 (by unfold hiZ loZ at *;omega))⟩
  · exact Or.inl (beq_eq_false_iff_ne.2 z1)
theorem rdiv_v (x y:Int) (hx:In2 x) (hy:In2 y) (h0:y ≠ 0) (w:World) :
    Calls Tryz.prog 104 #[.agg #[.int .u64 (hiZ x),.int .u64 (loZ x)],.agg #[.int .u64 (hiZ y),.int .u64 (loZ y)]] w fun e w' =>
      e=.returned (.tuple #[.agg #[.int .u64 (hiZ (x / y)),.int .u64 (loZ (x / y))],.agg #[.int .u64 (hiZ (x % y)),.int .u64 (loZ (x % y))],.bool true])∧Up w w':=by
  have h:=rdiv_pos (hiZ x) (loZ x) (hiZ y) (loZ y) (hiZ_word hx) (loZ_word x) (hiZ_word hy) (loZ_word y) (by rw [val_hilo];exact h0) (tests_v h0) w
  rw [val_hilo,val_hilo] at h
  exact h

/-- The cells that the walk of Gcd holds. -/
structure Gc (w wr:World) (x y:Int):Prop where
  up:Up w wr
  a0:wr.cell? ⟨w.heap.size,0,none⟩=some (.int .u64 (hiZ x))
  a1:wr.cell? ⟨w.heap.size,1,none⟩=some (.int .u64 (loZ x))
  b0:wr.cell? ⟨w.heap.size+1,0,none⟩=some (.int .u64 (hiZ y))
  b1:wr.cell? ⟨w.heap.size+1,1,none⟩=some (.int .u64 (loZ y))
  s0:wr.cell? ⟨w.heap.size+1+1,0,none⟩=some (.int .u64 0)
  s1:wr.cell? ⟨w.heap.size+1+1,1,none⟩=some (.int .u64 0)
theorem Gc.keep {w w1 w2:World} {x y:Int} (h:Gc w w1 x y) (hu:Up w1 w2):Gc w w2 x y :=
  ⟨h.up.trans hu,hu.keep _ _ _ h.a0,hu.keep _ _ _ h.a1,hu.keep _ _ _ h.b0,hu.keep _ _ _ h.b1,hu.keep _ _ _ h.s0,hu.keep _ _ _ h.s1⟩

set_option maxHeartbeats 4000000 in
set_option maxRecDepth 100000 in
theorem gcd_up (ah al bh bl:Int) (h1:Word ah) (h2:Word al) (h3:Word bh) (h4:Word bl) (w:World) :
    Calls Tryz.prog 111 #[.agg #[.int .u64 ah,.int .u64 al],.agg #[.int .u64 bh,.int .u64 bl]] w fun e w' =>
      e=.returned (.agg #[.int .u64 (hiZ (gcdZ (val ah al) (val bh bl))),.int .u64 (loZ (gcdZ (val ah al) (val bh bl)))])∧Up w w':=by
  have ha:=val_in h1 h2
  have hb:=val_in h3 h4
  go_enter Tryz.func111,Tryz.ntmps111
  go_wp2_with fail
  go_loopg [] (val bh bl).toNat (fun k wr=>∃ x y:Int,k=y.toNat∧In2 x∧In2 y∧Hid (gcdZ x y=gcdZ (val ah al) (val bh bl))∧Gc w wr x y)
  case atStart =>
    refine ⟨val ah al,val bh bl,rfl,ha,hb,Lib.hid rfl,?_⟩
    refine ⟨?_,by simp [go_sem,hiZ_val h2],by simp [go_sem,loZ_val h2],by simp [go_sem,hiZ_val h4],by simp [go_sem,loZ_val h4],by simp [go_sem],by simp [go_sem]⟩
    repeat (first | exact Up.refl _ | refine Up.alloc ?_ _ _ | refine Up.setCell ?_ (by first | (simp;done) | (simp;omega) | omega) _ | refine Up.drewN ?_ _ | refine Up.drew ?_)
  case round =>
    obtain ⟨x,y,rfl,hx,hy,HG,hC⟩:=hrel
    have b0:=hC.b0
    have b1:=hC.b1
    have a0:=hC.a0
    have a1:=hC.a1
    have s0:=hC.s0
    have s1:=hC.s1
    have HCC:=Lib.hid hC
    have z0:=hC.up.own 0 0
    have z1:=hC.up.own 0 1
    have z2:=hC.up.own 1 0
    have z3:=hC.up.own 1 1
    have z4:=hC.up.own 2 0
    have z5:=hC.up.own 2 1
    simp only [Nat.add_zero] at z0 z1
    rw [show w.heap.size+2=w.heap.size+1+1 by omega] at z4 z5
    clear hC
    go_wp2_with fail
    refine (isZero_v y hy _).mono ?_
    rintro e w1 ⟨rfl,hu1⟩
    have HC1:=Lib.hid (HCC.out.keep hu1)
    by_cases hz0:y=0
    · have t:=zB_yes hz0
      have HE:=Lib.hid (show gcdZ (val ah al) (val bh bl)=x by rw [← HG.out,hz0];exact gcdZ_zero x hx.1)
      have A0:=HC1.out.a0
      have A1:=HC1.out.a1
      have S0:=HC1.out.s0
      have S1:=HC1.out.s1
      have y4:=(hu1.cells.2 _).trans z4
      have y5:=(hu1.cells.2 _).trans z5
      clear hz0 hu1
      go_wp2_with fail
      refine bodyPost_ret (v:=.agg #[.int .u64 (hiZ x),.int .u64 (loZ x)]) (by simp [results,Tryz.results111,go_sem,S0,S1]) rfl ⟨?_,?_⟩
      · rw [HE.out]
      · repeat (first | exact Up.refl _ | (refine Up.trans ?_ (HC1.out.up);skip) | refine Up.alloc ?_ _ _ | refine Up.setCell ?_ (by first | (simp;done) | (simp;omega) | omega) _ | refine Up.drewN ?_ _ | refine Up.drew ?_)
    · have t:=zB_no hz0
      have hy0:0<y:=by obtain ⟨p1,_⟩:=hy;omega
      have hm:In2 (x % y):=by
        have:=Int.emod_lt_of_pos x hy0
        have:=Int.emod_nonneg x (show y ≠ 0 by omega)
        unfold In2 at *;omega
      have HS:=Lib.hid (gcdZ_step x y hx.1 hy0)
      have A0':=HC1.out.a0
      have A1':=HC1.out.a1
      have B0':=HC1.out.b0
      have B1':=HC1.out.b1
      clear hu1
      go_wp2_with fail
      refine (div_v x y hx hy hz0 _).mono ?_
      rintro e w2 ⟨rfl,hu2⟩
      have hC2:=(HC1.out).keep hu2
      have B0:=hC2.b0
      have B1:=hC2.b1
      have A0:=hC2.a0
      have A1:=hC2.a1
      have y0:=hC2.up.own 0 0
      have y1:=hC2.up.own 0 1
      have y2:=hC2.up.own 1 0
      have y3:=hC2.up.own 1 1
      simp only [Nat.add_zero] at y0 y1
      have HC2:=Lib.hid hC2
      have l2:w.heap.size+1<w2.heap.size:=World.block_lt_of_cell? _ _ B0
      have l1:w.heap.size<w2.heap.size:=by omega
      have l3:w.heap.size+1<w2.heap.size+1:=by omega
      have l4:¬ w2.heap.size=w.heap.size:=by omega
      have l5:¬ w2.heap.size=w.heap.size+1:=by omega
      have l6:¬ w2.heap.size+1=w.heap.size:=by omega
      have l7:¬ w2.heap.size+1=w.heap.size+1:=by omega
      have s0':=hC2.s0
      have s1':=hC2.s1
      have l8:w.heap.size+1+1<w2.heap.size:=World.block_lt_of_cell? _ _ s0'
      clear A0' A1' B0' B1' hC2 hu2 b0 b1 a0 a1 s0 s1 z0 z1 z2 z3 z4 z5
      go_wp2_with fail
      go_region
      all_goals
        go_wp2_with fail
        go_roundg (x % y).toNat
        case measure=>have:=Int.emod_lt_of_pos x hy0;have:=Int.emod_nonneg x (show y ≠ 0 by omega);omega
        case rel =>
          refine ⟨y,x % y,rfl,hy,hm,Lib.hid (HS.out.trans HG.out),?_⟩
          refine ⟨?_,by simp [go_sem, *],by simp [go_sem, *],by simp [go_sem, *],by simp [go_sem, *],by simp [go_sem, *],by simp [go_sem, *]⟩
          repeat (first | exact Up.refl _ | (refine Up.trans ?_ (HC2.out.up);skip) | refine Up.alloc ?_ _ _ | refine Up.setCell ?_ (by first | (simp;done) | (simp;omega) | omega) _ | refine Up.drewN ?_ _ | refine Up.drew ?_)

set_option maxHeartbeats 4000000 in
set_option maxRecDepth 100000 in
theorem rgcd_up (ah al bh bl:Int) (h1:Word ah) (h2:Word al) (h3:Word bh) (h4:Word bl) (w:World) :
    Calls Tryz.prog 100 #[.agg #[.int .u64 ah,.int .u64 al],.agg #[.int .u64 bh,.int .u64 bl]] w fun e w' =>
      e=.returned (.agg #[.int .u64 (hiZ (gcdZ (val ah al) (val bh bl))),.int .u64 (loZ (gcdZ (val ah al) (val bh bl)))])∧Up w w':=by
  have ha:=val_in h1 h2
  have hb:=val_in h3 h4
  go_enter Tryz.func100,Tryz.ntmps100
  go_wp2_with fail
  go_loopg [] (val bh bl).toNat (fun k wr=>∃ x y:Int,k=y.toNat∧In2 x∧In2 y∧Hid (gcdZ x y=gcdZ (val ah al) (val bh bl))∧Gc w wr x y)
  case atStart =>
    refine ⟨val ah al,val bh bl,rfl,ha,hb,Lib.hid rfl,?_⟩
    refine ⟨?_,by simp [go_sem,hiZ_val h2],by simp [go_sem,loZ_val h2],by simp [go_sem,hiZ_val h4],by simp [go_sem,loZ_val h4],by simp [go_sem],by simp [go_sem]⟩
    repeat (first | exact Up.refl _ | refine Up.alloc ?_ _ _ | refine Up.setCell ?_ (by first | (simp;done) | (simp;omega) | omega) _ | refine Up.drewN ?_ _ | refine Up.drew ?_)
  case round =>
    obtain ⟨x,y,rfl,hx,hy,HG,hC⟩:=hrel
    have b0:=hC.b0
    have b1:=hC.b1
    have a0:=hC.a0
    have a1:=hC.a1
    have s0:=hC.s0
    have s1:=hC.s1
    have HCC:=Lib.hid hC
    have z0:=hC.up.own 0 0
    have z1:=hC.up.own 0 1
    have z2:=hC.up.own 1 0
    have z3:=hC.up.own 1 1
    have z4:=hC.up.own 2 0
    have z5:=hC.up.own 2 1
    simp only [Nat.add_zero] at z0 z1
    rw [show w.heap.size+2=w.heap.size+1+1 by omega] at z4 z5
    clear hC
    by_cases hz0:y=0
    · have HE:=Lib.hid (show gcdZ (val ah al) (val bh bl)=x by rw [← HG.out,hz0];exact gcdZ_zero x hx.1)
      have t1:(hiZ y == 0)=true:=by rw [hz0];decide
      have t2:(loZ y == 0)=true:=by rw [hz0];decide
      clear hz0
      go_wp2_with fail
      refine bodyPost_ret (v:=.agg #[.int .u64 (hiZ x),.int .u64 (loZ x)]) (by simp [results,Tryz.results100,go_sem,s0,s1]) rfl ⟨?_,?_⟩
      · rw [HE.out]
      · repeat (first | exact Up.refl _ | (refine Up.trans ?_ (HCC.out.up);skip) | refine Up.alloc ?_ _ _ | refine Up.setCell ?_ (by first | (simp;done) | (simp;omega) | omega) _ | refine Up.drewN ?_ _ | refine Up.drew ?_)
    · have ht:=tests_v hz0
      have hy0:0<y:=by obtain ⟨p1,_⟩:=hy;omega
      have hm:In2 (x % y):=by
        have:=Int.emod_lt_of_pos x hy0
        have:=Int.emod_nonneg x (show y ≠ 0 by omega)
        unfold In2 at *;omega
      have HS:=Lib.hid (gcdZ_step x y hx.1 hy0)
      rcases ht with t1 | ⟨t1,t2⟩
      all_goals
        go_wp2_with fail
        refine (rdiv_v x y hx hy hz0 _).mono ?_
        rintro e w2 ⟨rfl,hu2⟩
        have hC2:=(HCC.out).keep hu2
        have B0:=hC2.b0
        have B1:=hC2.b1
        have A0:=hC2.a0
        have A1:=hC2.a1
        have y0:=hC2.up.own 0 0
        have y1:=hC2.up.own 0 1
        have y2:=hC2.up.own 1 0
        have y3:=hC2.up.own 1 1
        simp only [Nat.add_zero] at y0 y1
        have HC2:=Lib.hid hC2
        have l2:w.heap.size+1<w2.heap.size:=World.block_lt_of_cell? _ _ B0
        have l1:w.heap.size<w2.heap.size:=by omega
        have l3:w.heap.size+1<w2.heap.size+1:=by omega
        have l4:¬ w2.heap.size=w.heap.size:=by omega
        have l5:¬ w2.heap.size=w.heap.size+1:=by omega
        have l6:¬ w2.heap.size+1=w.heap.size:=by omega
        have l7:¬ w2.heap.size+1=w.heap.size+1:=by omega
        have s0':=hC2.s0
        have s1':=hC2.s1
        have l8:w.heap.size+1+1<w2.heap.size:=World.block_lt_of_cell? _ _ s0'
        clear hC2 hu2 b0 b1 a0 a1 s0 s1 z0 z1 z2 z3 z4 z5
        go_wp2_with fail
        go_region
        all_goals
          go_wp2_with fail
          go_roundg (x % y).toNat
          case measure=>have:=Int.emod_lt_of_pos x hy0;have:=Int.emod_nonneg x (show y ≠ 0 by omega);omega
          case rel =>
            refine ⟨y,x % y,rfl,hy,hm,Lib.hid (HS.out.trans HG.out),?_⟩
            refine ⟨?_,by simp [go_sem, *],by simp [go_sem, *],by simp [go_sem, *],by simp [go_sem, *],by simp [go_sem, *],by simp [go_sem, *]⟩
            repeat (first | exact Up.refl _ | (refine Up.trans ?_ (HC2.out.up);skip) | refine Up.alloc ?_ _ _ | refine Up.setCell ?_ (by first | (simp;done) | (simp;omega) | omega) _ | refine Up.drewN ?_ _ | refine Up.drew ?_)

end Go.Proofs.YtafkoddgefcpnaaGreat

namespace Go.Proofs.YtafkoddgefcpnaaGreat
open Go.RowKit

theorem word_int {d:Int} (h:1≤d) (hd:In d):Word d:=by obtain ⟨_,d2⟩:=hd;exact ⟨by omega,by omega⟩

end Go.Proofs.YtafkoddgefcpnaaGreat

namespace Go.Proofs.YtafkoddgefcpnaaGreat
open Go.RowKit

theorem gcdZ_abs (n d:Int) (hd:1≤d):gcdZ (val 0 (n.natAbs:Int)) (val 0 d)=(Nat.gcd n.natAbs d.natAbs:Nat):=by
  have e1:val 0 (n.natAbs:Int)=(n.natAbs:Int):=by unfold val;omega
  have e2:val 0 d=d:=by unfold val;omega
  have e3:d.toNat=d.natAbs:=by omega
  rw [e1,e2];unfold gcdZ;rw [Int.toNat_natCast,e3]
theorem gcd_small (n d:Int) (hd:1≤d) (hi:In d):0≤((Nat.gcd n.natAbs d.natAbs:Nat):Int)∧((Nat.gcd n.natAbs d.natAbs:Nat):Int)≤9223372036854775807:=by
  obtain ⟨_,d2⟩:=hi
  have:=Nat.gcd_le_right n.natAbs (show 0<d.natAbs by omega)
  omega
set_option maxHeartbeats 2000000 in
theorem rvalid_up (n d:Int) (hn:In n) (hd:In d) (w:World) :
    Calls Tryz.prog 78 #[.agg #[.int .i64 n,.int .i64 d]] w fun e w'=>e=.returned (.bool (validB n d))∧Up w w':=by
  by_cases h:1≤d
  · have t:decide (1≤d)=true:=decide_eq_true h
    have hw:IntKind.u64.wrap d=d:=by rw [IntKind.wrap_u64];obtain ⟨_,d2⟩:=hd;omega
    have HG:=Lib.hid (fun W=>rgcd_up 0 (n.natAbs:Int) 0 d word_0 (abs_word hn) word_0 (word_int h hd) W)
    rw [gcdZ_abs n d h] at HG
    have HA:=Lib.hid (fun W=>rabs_any n hn W)
    obtain ⟨g0,g1⟩:=gcd_small n d h hd
    have HV:=Lib.hid (validB_eq (n:=n) h)
    have hx:(((Nat.gcd n.natAbs d.natAbs:Nat):Int)=1∧validB n d=true)∨(((Nat.gcd n.natAbs d.natAbs:Nat):Int) ≠ 1∧validB n d=false):=by
      rw [HV.out]
      by_cases e:Nat.gcd n.natAbs d.natAbs=1
      · exact Or.inl ⟨by omega,decide_eq_true e⟩
      · exact Or.inr ⟨by omega,decide_eq_false e⟩
    clear HV
    generalize ((Nat.gcd n.natAbs d.natAbs:Nat):Int)=g at *
    have hi:hiZ g=0:=by unfold hiZ;omega
    have hl:loZ g=g:=by unfold loZ;omega
    rw [hi,hl] at HG
    clear h hi hl g0 g1 hn hd
    rcases hx with ⟨e1,e2⟩ | ⟨e1,e2⟩
    · subst e1
      have H:=Lib.hid e2
      clear e2
      go_enter Tryz.func78,Tryz.ntmps78
      go_wp2_with fail
      go_region_held3 (fun w'=>Up w w'∧w'.cell? ⟨w.heap.size,0,none⟩=some (.int .i64 n)∧w'.cell? ⟨w.heap.size,1,none⟩=some (.int .i64 d))
        (first | (exact keep2 (by assumption) (by assumption)) | (refine ⟨?_,by simp [go_sem],by simp [go_sem]⟩;repeat (first | exact Up.refl _ | refine Up.alloc ?_ _ _ | refine Up.setCell ?_ (by first | (simp;done) | (simp;omega) | omega) _ | refine Up.drewN ?_ _ | refine Up.drew ?_)))
        (first
          | (go_at_call 87;(with_reducible refine (HA.out _).mono ?_);rintro e w' ⟨rfl,rfl⟩)
          | (go_at_call 86;(with_reducible refine (rof_up _ _).mono ?_);rintro e w' ⟨rfl,hu⟩;have HU:=Lib.hid hu;clear hu)
          | (go_at_call 100;(with_reducible refine (HG.out _).mono ?_);rintro e w' ⟨rfl,hu⟩;have HU:=Lib.hid hu;clear hu))
      all_goals
        go_wp2
        go_ret
        exact ⟨by rw [H.out];rfl,And.left (by assumption)⟩
    · have t1:(g == 1)=false:=beq_eq_false_iff_ne.2 e1
      have H:=Lib.hid e2
      clear e1 e2
      go_enter Tryz.func78,Tryz.ntmps78
      go_wp2_with fail
      go_region_held3 (fun w'=>Up w w'∧w'.cell? ⟨w.heap.size,0,none⟩=some (.int .i64 n)∧w'.cell? ⟨w.heap.size,1,none⟩=some (.int .i64 d))
        (first | (exact keep2 (by assumption) (by assumption)) | (refine ⟨?_,by simp [go_sem],by simp [go_sem]⟩;repeat (first | exact Up.refl _ | refine Up.alloc ?_ _ _ | refine Up.setCell ?_ (by first | (simp;done) | (simp;omega) | omega) _ | refine Up.drewN ?_ _ | refine Up.drew ?_)))
        (first
          | (go_at_call 87;(with_reducible refine (HA.out _).mono ?_);rintro e w' ⟨rfl,rfl⟩)
          | (go_at_call 86;(with_reducible refine (rof_up _ _).mono ?_);rintro e w' ⟨rfl,hu⟩;have HU:=Lib.hid hu;clear hu)
          | (go_at_call 100;(with_reducible refine (HG.out _).mono ?_);rintro e w' ⟨rfl,hu⟩;have HU:=Lib.hid hu;clear hu))
      all_goals
        go_wp2
        go_ret
        exact ⟨by rw [H.out];rfl,And.left (by assumption)⟩
  · have t:decide (1≤d)=false:=decide_eq_false h
    have H:=Lib.hid (validB_low (n:=n) (show d<1 by omega))
    clear h
    go_enter Tryz.func78,Tryz.ntmps78
    go_wp2_with fail
    go_quiet (fail)
    all_goals
      go_wp2
      go_ret
      refine ⟨by rw [H.out];rfl,?_⟩
      repeat (first | exact Up.refl _ | refine Up.alloc ?_ _ _ | refine Up.setCell ?_ (by first | (simp;done) | (simp;omega) | omega) _ | refine Up.drewN ?_ _ | refine Up.drew ?_)

end Go.Proofs.YtafkoddgefcpnaaGreat
