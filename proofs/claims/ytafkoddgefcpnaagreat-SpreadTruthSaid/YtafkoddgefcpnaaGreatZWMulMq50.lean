/- Texts of these claims, one after the other. -/
import Derived.Test.YtafkoddgefcpnaaGreatRows
import Derived.Test.YtafkoddgefcpnaaGreatZWFormatq9
import Derived.Test.YtafkoddgefcpnaaGreatZWMulq27
namespace Go.Proofs.YtafkoddgefcpnaaGreat
open Go.RowKit

theorem mul_far2 {ah al bh bl:Int} (h1:Word ah) (h2:Word al) (h3:Word bh) (h4:Word bl) (t1:ah ≠ 0) (t2:bh ≠ 0):¬ In2 (val ah al * val bh bl):=by
  obtain ⟨a1,_⟩:=h1;obtain ⟨b1,_⟩:=h2;obtain ⟨c1,_⟩:=h3;obtain ⟨d1,_⟩:=h4
  have:18446744073709551616 * 18446744073709551616≤val ah al * val bh bl:=Int.mul_le_mul (by unfold val;omega) (by unfold val;omega) (by decide) (by unfold val;omega)
  unfold In2;omega
theorem mul_near2 {ah al bh bl:Int} (h1:Word ah) (h2:Word al) (h3:Word bh) (h4:Word bl) (h:ah=0∨bh=0) :
    ((hiZ (ah * bl) ≠ 0∨hiZ (al * bh) ≠ 0)→¬ In2 (val ah al * val bh bl)) ∧
    (hiZ (ah * bl)=0→hiZ (al * bh)=0→0≤loZ (ah * bl)+loZ (al * bh)∧loZ (ah * bl)+loZ (al * bh)<18446744073709551616∧val (hiZ (al * bl)) (loZ (al * bl))+val (loZ (ah * bl)+loZ (al * bh)) 0=val ah al * val bh bl):=by
  have hz:ah * bh=0:=by rcases h with h | h <;> subst h <;> simp
  have hlr:ah * bl=0∨al * bh=0:=by rcases h with h | h <;> subst h <;> simp
  have p1:=(mul_word h1 h4).1
  have p2:=(mul_word h2 h3).1
  have p3:=(mul_word h2 h4).1
  have e:val ah al * val bh bl=(ah * bl+al * bh) * 18446744073709551616+al * bl:=by
    unfold val
    rw [Int.add_mul,Int.mul_add,Int.mul_add,Int.mul_right_comm ah 18446744073709551616 (bh * 18446744073709551616),← Int.mul_assoc ah bh,hz,Int.mul_right_comm ah 18446744073709551616 bl,← Int.mul_assoc al bh]
    omega
  rw [e,val_hilo]
  generalize ah * bl=L at *
  generalize al * bh=R at *
  generalize al * bl=P at *
  unfold hiZ loZ val In2
  refine ⟨fun hh=>by omega,fun e1 e2=>⟨by omega,by omega,by omega⟩⟩
theorem set4 {w w1:World} {b0 o0 b1 o1 b2 o2 b3 o3:Nat} {x0 x1 x2 x3:Value} {b o:Nat} {v:Value}
    (h:Up w w1∧w1.cell? ⟨b0,o0,none⟩=some x0∧w1.cell? ⟨b1,o1,none⟩=some x1∧w1.cell? ⟨b2,o2,none⟩=some x2∧w1.cell? ⟨b3,o3,none⟩=some x3)
    (hb:w.heap.size≤b) (n0:b ≠ b0) (n1:b ≠ b1) (n2:b ≠ b2) (n3:b ≠ b3) :
    Up w (w1.setCell ⟨b,o,none⟩ v)∧(w1.setCell ⟨b,o,none⟩ v).cell? ⟨b0,o0,none⟩=some x0∧(w1.setCell ⟨b,o,none⟩ v).cell? ⟨b1,o1,none⟩=some x1∧(w1.setCell ⟨b,o,none⟩ v).cell? ⟨b2,o2,none⟩=some x2∧(w1.setCell ⟨b,o,none⟩ v).cell? ⟨b3,o3,none⟩=some x3 :=
  ⟨h.1.setCell hb v,(cell_far n0).trans h.2.1,(cell_far n1).trans h.2.2.1,(cell_far n2).trans h.2.2.2.1,(cell_far n3).trans h.2.2.2.2⟩


end Go.Proofs.YtafkoddgefcpnaaGreat

namespace Go.Proofs.YtafkoddgefcpnaaGreat
open Go.RowKit

theorem toInt_up (s:Bool) (v:Int) (hv:In2 v) (w:World) :
    Calls Tryz.prog 113 #[.agg #[.bool s,.int .u64 (hiZ v),.int .u64 (loZ v)]] w fun e w'=>e=got (fit (sz s v)) (fits (sz s v))∧Up w w':=by
  obtain ⟨v0,v1⟩:=hv
  have l0:0≤loZ v:=(loZ_word v).1
  have l1:loZ v≤18446744073709551615:=by have:=(loZ_word v).2;omega
  by_cases hh:hiZ v=0
  · have t1:(hiZ v != 0)=false:=bne_eq_false_iff_eq.2 hh
    have ev:v=loZ v:=by unfold hiZ at hh;unfold loZ;omega
    cases s
    · by_cases hl:loZ v≤9223372036854775807
      · have t2:decide (9223372036854775807<loZ v)=false:=decide_eq_false (by omega)
        have hi:In (sz false v):=by rw [sz_false];exact ⟨by omega,by omega⟩
        have H1:=Lib.hid (show fit (sz false v)=loZ v by rw [fit_yes hi,sz_false];exact ev)
        have H2:=Lib.hid (fits_yes hi)
        clear hi ev hh v0 v1
        go_enter Tryz.func113,Tryz.ntmps113
        go_wp2
        go_ret2
        refine ⟨by rw [H1.out,H2.out];rfl,?_⟩
        repeat (first | exact Up.refl _ | refine Up.alloc ?_ _ _ | refine Up.setCell ?_ (by first | (simp;done) | (simp;omega) | omega) _ | refine Up.drewN ?_ _ | refine Up.drew ?_)
      · have t2:decide (9223372036854775807<loZ v)=true:=decide_eq_true (by omega)
        have hi:¬ In (sz false v):=by rw [sz_false];unfold In;omega
        have H1:=Lib.hid (fit_no hi)
        have H2:=Lib.hid (fits_no hi)
        clear hi ev hh v0 v1 hl
        go_enter Tryz.func113,Tryz.ntmps113
        go_wp2
        go_ret2
        refine ⟨by rw [H1.out,H2.out];rfl,?_⟩
        repeat (first | exact Up.refl _ | refine Up.alloc ?_ _ _ | refine Up.setCell ?_ (by first | (simp;done) | (simp;omega) | omega) _ | refine Up.drewN ?_ _ | refine Up.drew ?_)
    · by_cases hl:loZ v≤9223372036854775808
      · have t2:decide (9223372036854775808<loZ v)=false:=decide_eq_false (by omega)
        have hi:In (sz true v):=by rw [sz_true];exact ⟨by omega,by omega⟩
        have H2:=Lib.hid (fits_yes hi)
        by_cases hm:loZ v=9223372036854775808
        · have H1:=Lib.hid (show fit (sz true v)=wrap64 (-wrap64 9223372036854775808) by rw [fit_yes hi,sz_true];unfold wrap64;omega)
          clear hi ev hh v0 v1 hl t2 l0 l1
          generalize loZ v=lo at *
          subst hm
          go_enter Tryz.func113,Tryz.ntmps113
          go_wp2
          go_ret2
          refine ⟨by rw [H1.out,H2.out];rfl,?_⟩
          repeat (first | exact Up.refl _ | refine Up.alloc ?_ _ _ | refine Up.setCell ?_ (by first | (simp;done) | (simp;omega) | omega) _ | refine Up.drewN ?_ _ | refine Up.drew ?_)
        · have H1:=Lib.hid (show fit (sz true v)=-loZ v by rw [fit_yes hi,sz_true];omega)
          have hl2:loZ v≤9223372036854775807:=by omega
          clear hi ev hh v0 v1 hl hm
          go_enter Tryz.func113,Tryz.ntmps113
          go_wp2
          go_ret2
          refine ⟨by rw [H1.out,H2.out];rfl,?_⟩
          repeat (first | exact Up.refl _ | refine Up.alloc ?_ _ _ | refine Up.setCell ?_ (by first | (simp;done) | (simp;omega) | omega) _ | refine Up.drewN ?_ _ | refine Up.drew ?_)
      · have t2:decide (9223372036854775808<loZ v)=true:=decide_eq_true (by omega)
        have hi:¬ In (sz true v):=by rw [sz_true];unfold In;omega
        have H1:=Lib.hid (fit_no hi)
        have H2:=Lib.hid (fits_no hi)
        clear hi ev hh v0 v1 hl
        go_enter Tryz.func113,Tryz.ntmps113
        go_wp2
        go_ret2
        refine ⟨by rw [H1.out,H2.out];rfl,?_⟩
        repeat (first | exact Up.refl _ | refine Up.alloc ?_ _ _ | refine Up.setCell ?_ (by first | (simp;done) | (simp;omega) | omega) _ | refine Up.drewN ?_ _ | refine Up.drew ?_)
  · have t1:(hiZ v != 0)=true:=bne_iff_ne.2 hh
    have hi:¬ In (sz s v):=by
      have hb:18446744073709551616≤v:=by unfold hiZ at hh;omega
      cases s
      · rw [sz_false];unfold In;omega
      · rw [sz_true];unfold In;omega
    have H1:=Lib.hid (fit_no hi)
    have H2:=Lib.hid (fits_no hi)
    clear hi hh v0 v1
    cases s
    all_goals
      go_enter Tryz.func113,Tryz.ntmps113
      go_wp2
      go_ret2
      refine ⟨by rw [H1.out,H2.out];rfl,?_⟩
      repeat (first | exact Up.refl _ | refine Up.alloc ?_ _ _ | refine Up.setCell ?_ (by first | (simp;done) | (simp;omega) | omega) _ | refine Up.drewN ?_ _ | refine Up.drew ?_)

theorem rmag_any (a:Int) (ha:In a) (w:World) :
    Calls Tryz.prog 114 #[.int .i64 a] w fun e w'=>e=.returned (.int .u64 (a.natAbs:Int))∧w=w':=by
  obtain ⟨a1,a2⟩:=ha
  by_cases hn:a<0
  · have H:IntKind.u64.wrap (-IntKind.u64.wrap a)=(a.natAbs:Int):=by simp only [IntKind.wrap_u64];omega
    go_enter Tryz.func114,Tryz.ntmps114
    go_wp2
    go_ret
    exact ⟨rfl,rfl⟩
  · have H:IntKind.u64.wrap a=(a.natAbs:Int):=by simp only [IntKind.wrap_u64];omega
    go_enter Tryz.func114,Tryz.ntmps114
    go_wp2
    go_ret
    exact ⟨rfl,rfl⟩

theorem prod_up (a b:Int) (ha:In a) (hb:In b) (w:World) :
    Calls Tryz.prog 97 #[.int .i64 a,.int .i64 b] w fun e w'=>e=.returned (.agg #[.bool (decide (a<0) != decide (b<0)),.int .u64 (hiZ ((a.natAbs:Int) * (b.natAbs:Int))),.int .u64 (loZ ((a.natAbs:Int) * (b.natAbs:Int)))])∧Up w w':=by
  have hA:=abs_word ha
  have hB:=abs_word hb
  have HA:=Lib.hid ha
  have HB:=Lib.hid hb
  clear ha hb
  generalize e1:decide (a<0)=sa at *
  generalize e2:decide (b<0)=sb at *
  go_enter Tryz.func97,Tryz.ntmps97
  go_wp2_with fail
  refine (rmag_any a HA.out _).mono ?_
  rintro e w' ⟨rfl,rfl⟩
  go_wp2_with fail
  refine (rmag_any b HB.out _).mono ?_
  rintro e w' ⟨rfl,rfl⟩
  go_wp2_with fail
  refine (product_up _ _ hA hB _).mono ?_
  rintro e w1 ⟨rfl,hu1⟩
  obtain ⟨hc1,hz1⟩:=hu1.cells
  have hs1:=hu1.size
  try simp at hs1
  try unfold got2
  have p1_0:w.heap.size<w1.heap.size:=by omega
  go_wp2_with fail
  refine bodyPost_ret (v:=.agg #[.bool (sa != sb),.int .u64 (hiZ ((a.natAbs:Int) * (b.natAbs:Int))),.int .u64 (loZ ((a.natAbs:Int) * (b.natAbs:Int)))]) (by simp [results,Tryz.results97,go_sem,hc1];cases sa <;> cases sb <;> rfl) rfl ⟨?_,?_⟩
  · rfl
  · repeat (first | exact Up.refl _ | refine Up.trans ?_ hu1 | refine Up.alloc ?_ _ _ | refine Up.setCell ?_ (by first | (simp;done) | (simp;omega) | omega) _ | refine Up.drewN ?_ _ | refine Up.drew ?_)

end Go.Proofs.YtafkoddgefcpnaaGreat

namespace Go.Proofs.YtafkoddgefcpnaaGreat
open Go.RowKit

/-- The cells that the walk of product holds. -/
structure Pr (w wr:World) (p0 p1 p2 p3 bh bl:Int):Prop where
  up:Up w wr
  b0:wr.cell? ⟨w.heap.size+1,0,none⟩=some (.int .u64 bh)
  b1:wr.cell? ⟨w.heap.size+1,1,none⟩=some (.int .u64 bl)
  r0:wr.cell? ⟨w.heap.size+1+1,0,none⟩=some (.int .u64 0)
  r1:wr.cell? ⟨w.heap.size+1+1,1,none⟩=some (.int .u64 0)
  r2:wr.cell? ⟨w.heap.size+1+1,2,none⟩=some (.int .u64 0)
  r3:wr.cell? ⟨w.heap.size+1+1,3,none⟩=some (.int .u64 0)
  c0:wr.cell? ⟨w.heap.size+1+1+1,0,none⟩=some (.int .u64 p0)
  c1:wr.cell? ⟨w.heap.size+1+1+1,1,none⟩=some (.int .u64 p1)
  c2:wr.cell? ⟨w.heap.size+1+1+1,2,none⟩=some (.int .u64 p2)
  c3:wr.cell? ⟨w.heap.size+1+1+1,3,none⟩=some (.int .u64 p3)
theorem Pr.keep {w w1 w2:World} {p0 p1 p2 p3 bh bl:Int} (h:Pr w w1 p0 p1 p2 p3 bh bl) (hu:Up w1 w2):Pr w w2 p0 p1 p2 p3 bh bl :=
  ⟨h.up.trans hu,hu.keep _ _ _ h.b0,hu.keep _ _ _ h.b1,hu.keep _ _ _ h.r0,hu.keep _ _ _ h.r1,hu.keep _ _ _ h.r2,hu.keep _ _ _ h.r3,hu.keep _ _ _ h.c0,hu.keep _ _ _ h.c1,hu.keep _ _ _ h.c2,hu.keep _ _ _ h.c3⟩
end Go.Proofs.YtafkoddgefcpnaaGreat
