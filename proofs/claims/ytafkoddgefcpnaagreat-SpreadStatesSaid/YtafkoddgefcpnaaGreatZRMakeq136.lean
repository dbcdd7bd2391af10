/- Texts of these claims, one after the other. -/
import Derived.Test.YtafkoddgefcpnaaGreatRows
import Derived.Test.YtafkoddgefcpnaaGreatZKMemq70
import Derived.Test.YtafkoddgefcpnaaGreatZRRedq128
namespace Go.Proofs.YtafkoddgefcpnaaGreat
open Go.RowKit

theorem quo_same {p q p' q':Int} (h:q ≠ 0) (h':q' ≠ 0) (e:p * q'=p' * q):quoN p q=quoN p' q'∧quoD p q=quoD p' q'∧quoB p q=quoB p' q':=by
  have e1:=quo_eq (p:=p') h'
  obtain ⟨u1,u2⟩:=quo_uniq h (quoQ_pos (p:=p') h') (quo_coprime (p:=p') h') (show p * quoQ p' q'=quoP p' q' * q by
    have:q' * (p * quoQ p' q')=q' * (quoP p' q' * q):=by
      have t1:q' * (p * quoQ p' q')=p * q' * quoQ p' q':=by ac_rfl
      have t2:q' * (quoP p' q' * q)=quoP p' q' * q' * q:=by ac_rfl
      rw [t1,t2,e1,e]
      ac_rfl
    exact Int.eq_of_mul_eq_mul_left h' this)
  have hB:quoB p q=quoB p' q':=by unfold quoB;rw [u1,u2,decide_eq_true h,decide_eq_true h']
  refine ⟨?_,?_,hB⟩
  · unfold quoN;rw [hB,u1]
  · unfold quoD;rw [hB,u2]

theorem quot_up (s t:Bool) (x y:Int) (hx:In2 x) (hy:In2 y) (w:World) :
    Calls Tryz.prog 96 #[.agg #[.bool s,.int .u64 (hiZ x),.int .u64 (loZ x)],.agg #[.bool t,.int .u64 (hiZ y),.int .u64 (loZ y)]] w fun e w' =>
      e=gotR (quoN (sz s x) (sz t y)) (quoD (sz s x) (sz t y)) (quoB (sz s x) (sz t y))∧Up w w':=by
  by_cases h0:y=0
  · subst h0
    have hz:sz t 0=0:=by cases t <;> rfl
    rw [hz,(quo_zero _).1,(quo_zero _).2.1,(quo_zero _).2.2]
    exact quot_zero s t x w
  · exact quot_pos s t x y hx hy h0 w

theorem abs_prod {a b:Int} (ha:In a) (hb:In b):0≤(a.natAbs:Int) * (b.natAbs:Int)∧(a.natAbs:Int) * (b.natAbs:Int)≤85070591730234615865843651857942052864:=by
  obtain ⟨a1,a2⟩:=ha;obtain ⟨b1,b2⟩:=hb
  refine ⟨Int.mul_nonneg (by omega) (by omega),?_⟩
  have h:(a.natAbs:Int) * (b.natAbs:Int)≤9223372036854775808 * 9223372036854775808:=Int.mul_le_mul (by omega) (by omega) (by omega) (by omega)
  exact h
/-- A product of two int64 numbers as a sign and a magnitude. -/
theorem prod_v (a b:Int) (ha:In a) (hb:In b):∃ (s:Bool) (x:Int),In2 x∧x≤85070591730234615865843651857942052864∧sz s x=a * b ∧
    ∀ w,Calls Tryz.prog 97 #[.int .i64 a,.int .i64 b] w fun e w'=>e=.returned (.agg #[.bool s,.int .u64 (hiZ x),.int .u64 (loZ x)])∧Up w w':=by
  obtain ⟨h1,h2⟩:=abs_prod ha hb
  exact ⟨_,_,⟨h1,by omega⟩,h2,sz_prod a b,fun w=>prod_up a b ha hb w⟩

theorem in_1:In 1:=⟨by decide,by decide⟩

set_option maxHeartbeats 1000000 in
theorem make_up (n d:Int) (hn:In n) (hd:In d) (w:World) :
    Calls Tryz.prog 62 #[.int .i64 n,.int .i64 d] w fun e w'=>e=gotR (quoN n d) (quoD n d) (quoB n d)∧Up w w':=by
  obtain ⟨s1,x1,i1,b1,e1,P1⟩:=prod_v n 1 hn in_1
  obtain ⟨s2,x2,i2,b2,e2,P2⟩:=prod_v d 1 hd in_1
  have HQ:=Lib.hid (fun W=>quot_up s1 s2 x1 x2 i1 i2 W)
  rw [e1,e2,Int.mul_one,Int.mul_one] at HQ
  have H1:=Lib.hid P1
  have H2:=Lib.hid P2
  generalize quoN n d=N at *
  generalize quoD n d=D at *
  generalize quoB n d=B at *
  clear i1 b1 e1 P1 i2 b2 e2 P2 hn hd
  go_enter Tryz.func62,Tryz.ntmps62
  go_wp2_with fail
  refine (H1.out _).mono ?_
  rintro e w1 ⟨rfl,hu1⟩
  try unfold got2
  have c1_0:=hu1.keep (w.heap.size) (0) (.int .i64 0) (by simp [go_sem, *])
  have c1_1:=hu1.keep (w.heap.size) (1) (.int .i64 0) (by simp [go_sem, *])
  have l1_0:w.heap.size<w1.heap.size:=World.block_lt_of_cell? _ _ c1_0
  have m1_0:w.heap.size<w1.heap.size+1:=by omega
  have n1_0:w.heap.size<w1.heap.size+1+1:=by omega
  have x1_0:¬ w1.heap.size=w.heap.size:=by omega
  have y1_0:¬ w1.heap.size+1=w.heap.size:=by omega
  have HU1:Hid (Up w w1):=Lib.hid (by ((repeat (first | (with_reducible exact Up.refl _) | (with_reducible refine Up.trans ?_ hu1) | (with_reducible refine Up.alloc ?_ _ _) | (with_reducible refine Up.setCell ?_ ?_ _) | (with_reducible refine Up.drewN ?_ _) | (with_reducible refine Up.drew ?_)));all_goals (first | (simp;done) | (simp;omega) | omega)))
  clear hu1
  go_wp2_with fail
  refine (H2.out _).mono ?_
  rintro e w2 ⟨rfl,hu2⟩
  try unfold got2
  have c2_0:=hu2.keep (w.heap.size) (0) (.int .i64 0) (by simp [go_sem, *])
  have c2_1:=hu2.keep (w.heap.size) (1) (.int .i64 0) (by simp [go_sem, *])
  have l2_0:w.heap.size<w2.heap.size:=World.block_lt_of_cell? _ _ c2_0
  have m2_0:w.heap.size<w2.heap.size+1:=by omega
  have n2_0:w.heap.size<w2.heap.size+1+1:=by omega
  have x2_0:¬ w2.heap.size=w.heap.size:=by omega
  have y2_0:¬ w2.heap.size+1=w.heap.size:=by omega
  have HU2:Hid (Up w w2):=Lib.hid (by ((repeat (first | (with_reducible exact Up.refl _) | (with_reducible exact HU1.out) | (with_reducible refine Up.trans ?_ hu2) | (with_reducible refine Up.alloc ?_ _ _) | (with_reducible refine Up.setCell ?_ ?_ _) | (with_reducible refine Up.drewN ?_ _) | (with_reducible refine Up.drew ?_)));all_goals (first | (simp;done) | (simp;omega) | omega)))
  clear hu2 c1_0 c1_1
  go_wp2_with fail
  refine (HQ.out _).mono ?_
  rintro e w3 ⟨rfl,hu3⟩
  try unfold got2
  have c3_0:=hu3.keep (w.heap.size) (0) (.int .i64 0) (by simp [go_sem, *])
  have c3_1:=hu3.keep (w.heap.size) (1) (.int .i64 0) (by simp [go_sem, *])
  have l3_0:w.heap.size<w3.heap.size:=World.block_lt_of_cell? _ _ c3_0
  have m3_0:w.heap.size<w3.heap.size+1:=by omega
  have n3_0:w.heap.size<w3.heap.size+1+1:=by omega
  have x3_0:¬ w3.heap.size=w.heap.size:=by omega
  have y3_0:¬ w3.heap.size+1=w.heap.size:=by omega
  have HU3:Hid (Up w w3):=Lib.hid (by ((repeat (first | (with_reducible exact Up.refl _) | (with_reducible exact HU2.out) | (with_reducible refine Up.trans ?_ hu3) | (with_reducible refine Up.alloc ?_ _ _) | (with_reducible refine Up.setCell ?_ ?_ _) | (with_reducible refine Up.drewN ?_ _) | (with_reducible refine Up.drew ?_)));all_goals (first | (simp;done) | (simp;omega) | omega)))
  clear hu3 c2_0 c2_1
  unfold gotR
  have z0:=own0 HU3.out 0
  have z1:=own0 HU3.out 1
  go_wp2_with fail
  refine bodyPost_ret (v:=.tuple #[.agg #[.int .i64 N,.int .i64 D],.bool B]) (by simp [results,Tryz.results62,go_sem,c3_0,c3_1]) rfl ⟨?_,?_⟩
  · rfl
  · ((repeat (first | (with_reducible exact Up.refl _) | (with_reducible exact HU3.out) | (with_reducible refine Up.alloc ?_ _ _) | (with_reducible refine Up.setCell ?_ ?_ _) | (with_reducible refine Up.drewN ?_ _) | (with_reducible refine Up.drew ?_)));all_goals (first | (simp;done) | (simp;omega) | omega))

/-- The reference's way to the quotient of two numbers. -/
theorem red_v (s:Bool) (x y p q:Int) (hx:In2 x) (hy:In2 y) (h0:y ≠ 0) (hq:q ≠ 0) (e:sz s x * q=p * y) (w:World) :
    Calls Tryz.prog 85 #[.bool s,.agg #[.int .u64 (hiZ x),.int .u64 (loZ x)],.agg #[.int .u64 (hiZ y),.int .u64 (loZ y)]] w fun e w'=>e=gotR (quoN p q) (quoD p q) (quoB p q)∧Up w w':=by
  have h:=red_up s x y hx hy h0 w
  obtain ⟨e1,e2,e3⟩:=quo_same h0 hq e
  rw [e1,e2,e3] at h
  exact h

theorem hl_abs {a:Int} (ha:In a):hiZ (a.natAbs:Int)=0∧loZ (a.natAbs:Int)=(a.natAbs:Int):=by
  obtain ⟨a1,a2⟩:=ha;unfold hiZ loZ;omega
theorem in2_abs {a:Int} (ha:In a):In2 (a.natAbs:Int):=by
  obtain ⟨a1,a2⟩:=ha;exact ⟨by omega,by omega⟩
/-- The sign of the reference's Make. -/
theorem make_ways (n d:Int) (_:d ≠ 0) :
    (decide (n<0)=false∧decide (d<0)=false∧sz false (n.natAbs:Int) * d=n * (d.natAbs:Int)) ∨
    (decide (n<0)=true∧decide (d<0)=true∧sz false (n.natAbs:Int) * d=n * (d.natAbs:Int)) ∨
    (decide (n<0)=true∧decide (d<0)=false∧(n != 0)=true∧sz true (n.natAbs:Int) * d=n * (d.natAbs:Int)) ∨
    (decide (n<0)=false∧decide (d<0)=true∧(n != 0)=true∧sz true (n.natAbs:Int) * d=n * (d.natAbs:Int)) ∨
    (decide (n<0)=false∧decide (d<0)=true∧(n != 0)=false∧sz false (n.natAbs:Int) * d=n * (d.natAbs:Int)):=by
  by_cases h1:n<0 <;> by_cases h2:d<0
  · refine Or.inr (Or.inl ⟨decide_eq_true h1,decide_eq_true h2,?_⟩)
    rw [sz_false,show (n.natAbs:Int)=-n by omega,show (d.natAbs:Int)=-d by omega,Int.neg_mul,Int.mul_neg]
  · refine Or.inr (Or.inr (Or.inl ⟨decide_eq_true h1,decide_eq_false h2,bne_iff_ne.2 (by omega),?_⟩))
    rw [sz_true,show -(n.natAbs:Int)=n by omega,show (d.natAbs:Int)=d by omega]
  · by_cases h3:n=0
    · refine Or.inr (Or.inr (Or.inr (Or.inr ⟨decide_eq_false h1,decide_eq_true h2,bne_eq_false_iff_eq.2 h3,?_⟩)))
      rw [sz_false,h3];simp
    · refine Or.inr (Or.inr (Or.inr (Or.inl ⟨decide_eq_false h1,decide_eq_true h2,bne_iff_ne.2 h3,?_⟩)))
      rw [sz_true,show (n.natAbs:Int)=n by omega,show (d.natAbs:Int)=-d by omega,Int.neg_mul,Int.mul_neg]
  · refine Or.inl ⟨decide_eq_false h1,decide_eq_false h2,?_⟩
    rw [sz_false,show (n.natAbs:Int)=n by omega,show (d.natAbs:Int)=d by omega]

set_option maxHeartbeats 2000000 in
theorem rmake_up (n d:Int) (hn:In n) (hd:In d) (w:World) :
    Calls Tryz.prog 52 #[.int .i64 n,.int .i64 d] w fun e w'=>e=gotR (quoN n d) (quoD n d) (quoB n d)∧Up w w':=by
  by_cases h0:d=0
  · subst h0
    rw [(quo_zero n).1,(quo_zero n).2.1,(quo_zero n).2.2]
    go_enter Tryz.func52,Tryz.ntmps52
    go_wp2_with fail
    refine bodyPost_ret (v:=.tuple #[.agg #[.int .i64 0,.int .i64 0],.bool false]) (by simp [results,Tryz.results52,go_sem]) rfl ⟨?_,?_⟩
    · rfl
    · repeat (first | exact Up.refl _ | refine Up.alloc ?_ _ _ | refine Up.setCell ?_ (by first | (simp;done) | (simp;omega) | omega) _ | refine Up.drewN ?_ _ | refine Up.drew ?_)
  · have t0:(d == 0)=false:=beq_eq_false_iff_ne.2 h0
    have HA:=Lib.hid (fun W=>rabs_any n hn W)
    have HB:=Lib.hid (fun W=>rabs_any d hd W)
    have HM:=Lib.hid (fun s (e:sz s (n.natAbs:Int) * d=n * (d.natAbs:Int)) W=>red_v s (n.natAbs:Int) (d.natAbs:Int) n d (in2_abs hn) (in2_abs hd) (by omega) h0 e W)
    rw [(hl_abs hn).1,(hl_abs hn).2,(hl_abs hd).1,(hl_abs hd).2] at HM
    generalize quoN n d=N at *
    generalize quoD n d=D at *
    generalize quoB n d=B at *
    have hw:=make_ways n d h0
    clear hn hd h0
    rcases hw with ⟨t1,t2,e⟩ | ⟨t1,t2,e⟩ | ⟨t1,t2,t3,e⟩ | ⟨t1,t2,t3,e⟩ | ⟨t1,t2,t3,e⟩
    all_goals
      have HE:=Lib.hid e
      clear e
      generalize (n.natAbs:Int)=na at *
      generalize (d.natAbs:Int)=da at *
      go_enter Tryz.func52,Tryz.ntmps52
      go_wp2_with fail
      refine (HA.out _).mono ?_
      rintro e w' ⟨rfl,rfl⟩
      go_wp2_with fail
      refine (rof_up na _).mono ?_
      rintro e w1 ⟨rfl,hu1⟩
      try unfold got2
      have c1_0:=hu1.keep (w.heap.size) (0) (.int .i64 0) (by simp [go_sem, *])
      have c1_1:=hu1.keep (w.heap.size) (1) (.int .i64 0) (by simp [go_sem, *])
      have l1_0:w.heap.size<w1.heap.size:=World.block_lt_of_cell? _ _ c1_0
      have m1_0:w.heap.size<w1.heap.size+1:=by omega
      have n1_0:w.heap.size<w1.heap.size+1+1:=by omega
      have x1_0:¬ w1.heap.size=w.heap.size:=by omega
      have y1_0:¬ w1.heap.size+1=w.heap.size:=by omega
      have HU1:Hid (Up w w1):=Lib.hid (by ((repeat (first | (with_reducible exact Up.refl _) | (with_reducible refine Up.trans ?_ hu1) | (with_reducible refine Up.alloc ?_ _ _) | (with_reducible refine Up.setCell ?_ ?_ _) | (with_reducible refine Up.drewN ?_ _) | (with_reducible refine Up.drew ?_)));all_goals (first | (simp;done) | (simp;omega) | omega)))
      clear hu1
      go_wp2_with fail
      refine (HB.out _).mono ?_
      rintro e w' ⟨rfl,rfl⟩
      go_wp2_with fail
      refine (rof_up da _).mono ?_
      rintro e w2 ⟨rfl,hu2⟩
      try unfold got2
      have c2_0:=hu2.keep (w.heap.size) (0) (.int .i64 0) (by simp [go_sem, *])
      have c2_1:=hu2.keep (w.heap.size) (1) (.int .i64 0) (by simp [go_sem, *])
      have l2_0:w.heap.size<w2.heap.size:=World.block_lt_of_cell? _ _ c2_0
      have m2_0:w.heap.size<w2.heap.size+1:=by omega
      have n2_0:w.heap.size<w2.heap.size+1+1:=by omega
      have x2_0:¬ w2.heap.size=w.heap.size:=by omega
      have y2_0:¬ w2.heap.size+1=w.heap.size:=by omega
      have HU2:Hid (Up w w2):=Lib.hid (by ((repeat (first | (with_reducible exact Up.refl _) | (with_reducible exact HU1.out) | (with_reducible refine Up.trans ?_ hu2) | (with_reducible refine Up.alloc ?_ _ _) | (with_reducible refine Up.setCell ?_ ?_ _) | (with_reducible refine Up.drewN ?_ _) | (with_reducible refine Up.drew ?_)));all_goals (first | (simp;done) | (simp;omega) | omega)))
      clear hu2 c1_0 c1_1
      go_wp2_with fail
      refine (HM.out _ HE.out _).mono ?_
      rintro e w3 ⟨rfl,hu3⟩
      try unfold got2
      have c3_0:=hu3.keep (w.heap.size) (0) (.int .i64 0) (by simp [go_sem, *])
      have c3_1:=hu3.keep (w.heap.size) (1) (.int .i64 0) (by simp [go_sem, *])
      have l3_0:w.heap.size<w3.heap.size:=World.block_lt_of_cell? _ _ c3_0
      have m3_0:w.heap.size<w3.heap.size+1:=by omega
      have n3_0:w.heap.size<w3.heap.size+1+1:=by omega
      have x3_0:¬ w3.heap.size=w.heap.size:=by omega
      have y3_0:¬ w3.heap.size+1=w.heap.size:=by omega
      have HU3:Hid (Up w w3):=Lib.hid (by ((repeat (first | (with_reducible exact Up.refl _) | (with_reducible exact HU2.out) | (with_reducible refine Up.trans ?_ hu3) | (with_reducible refine Up.alloc ?_ _ _) | (with_reducible refine Up.setCell ?_ ?_ _) | (with_reducible refine Up.drewN ?_ _) | (with_reducible refine Up.drew ?_)));all_goals (first | (simp;done) | (simp;omega) | omega)))
      clear hu3 c2_0 c2_1
      unfold gotR
      have z0:=own0 HU3.out 0
      have z1:=own0 HU3.out 1
      go_wp2_with fail
      refine bodyPost_ret (v:=.tuple #[.agg #[.int .i64 N,.int .i64 D],.bool B]) (by simp [results,Tryz.results52,go_sem,c3_0,c3_1]) rfl ⟨?_,?_⟩
      · rfl
      · ((repeat (first | (with_reducible exact Up.refl _) | (with_reducible exact HU3.out) | (with_reducible refine Up.alloc ?_ _ _) | (with_reducible refine Up.setCell ?_ ?_ _) | (with_reducible refine Up.drewN ?_ _) | (with_reducible refine Up.drew ?_)));all_goals (first | (simp;done) | (simp;omega) | omega))

end Go.Proofs.YtafkoddgefcpnaaGreat

namespace Go.Proofs.YtafkoddgefcpnaaGreat
open Go.RowKit

/-- The two cells of a result hold numbers. -/
def Res2 (w':World) (b:Nat):Prop:=∃ v0 v1:Int,w'.cell? ⟨b,0,none⟩=some (.int .i64 v0)∧w'.cell? ⟨b,1,none⟩=some (.int .i64 v1)
theorem Res2.keep {w1 w2:World} {b:Nat} (hu:Up w1 w2) (h:Res2 w1 b):Res2 w2 b:=by
  obtain ⟨v0,v1,h0,h1⟩:=h
  exact ⟨v0,v1,hu.keep _ _ _ h0,hu.keep _ _ _ h1⟩
end Go.Proofs.YtafkoddgefcpnaaGreat

namespace Go.Proofs.YtafkoddgefcpnaaGreat

/-- A number, or zero; one of two numbers. -/
def oz (v:Bool) (n:Int):Int:=if v=true then n else 0
theorem oz_yes (n:Int):oz true n=n:=rfl
theorem oz_no (n:Int):oz false n=0:=rfl
end Go.Proofs.YtafkoddgefcpnaaGreat

namespace Go.Proofs.YtafkoddgefcpnaaGreat

theorem quo_fits {p q:Int} (h0:0≤p) (h1:p≤4611686018427387904) (h2:1≤q) (h3:q≤4611686018427387904):quoB p q=true:=by
  have hg:=quoG_pos (p:=p) (q:=q) (by omega)
  have e1:quoP p q=p / quoG p q:=by unfold quoP;rw [if_neg (by omega)]
  have a1:0≤p / quoG p q:=Int.ediv_nonneg h0 (by omega)
  have a2:p / quoG p q≤p:=Int.ediv_le_self _ h0
  have e2:quoQ p q=(q.natAbs:Int) / quoG p q:=rfl
  have b1:0≤(q.natAbs:Int) / quoG p q:=Int.ediv_nonneg (by omega) (by omega)
  have b2:(q.natAbs:Int) / quoG p q≤q.natAbs:=Int.ediv_le_self _ (by omega)
  unfold quoB
  rw [fits_yes (show In (quoP p q) by unfold In;rw [e1];omega),fits_yes (show In (quoQ p q) by unfold In;rw [e2];omega),decide_eq_true (show q ≠ 0 by omega)]
  rfl
theorem spM_fit {m:Mrk} (h:myM m=true):quoB (spM m) m.n=true:=by
  have:=myM_bd h
  exact quo_fits (by omega) (by omega) (by omega) (by omega)
section
variable {v q c now : Int} {X : List Mrk} {M : List It}
end
end Go.Proofs.YtafkoddgefcpnaaGreat

namespace Go.Proofs.YtafkoddgefcpnaaGreat
open Go.RowKit

theorem valid_one (n:Int):validB n 1=true:=by unfold validB;exact decide_eq_true ⟨Int.le_refl _,by simp⟩
end Go.Proofs.YtafkoddgefcpnaaGreat
