/- Texts of these claims, one after the other. -/
import Derived.Test.YtafkoddgefcpnaaGreatRows
import Derived.Test.YtafkoddgefcpnaaGreatZESqq31
import Derived.Test.YtafkoddgefcpnaaGreatZWGcdq117
namespace Go.Proofs.YtafkoddgefcpnaaGreat
open Go.RowKit

/-- A rational number and a bool. -/
def gotR (n d:Int) (b:Bool):Ending:=.returned (.tuple #[.agg #[.int .i64 n,.int .i64 d],.bool b])

theorem quo_out (s t:Bool) (x y:Int) (hx:0≤x) (hy:0<y) :
    gotR (quoN (sz s x) (sz t y)) (quoD (sz s x) (sz t y)) (quoB (sz s x) (sz t y)) =
      if (fits (sz (s != t) (x / gcdZ x y)) && fits (sz false (y / gcdZ x y)))=true then gotR (fit (sz (s != t) (x / gcdZ x y))) (fit (sz false (y / gcdZ x y))) true else gotR 0 0 false:=by
  obtain ⟨e1,e2⟩:=quo_parts s t x y hx hy
  have h0:sz t y ≠ 0:=by cases t <;> simp [sz_true,sz_false] <;> omega
  have e2':quoQ (sz s x) (sz t y)=sz false (y / gcdZ x y):=e2
  have hB:quoB (sz s x) (sz t y)=(fits (sz (s != t) (x / gcdZ x y)) && fits (sz false (y / gcdZ x y))):=by
    unfold quoB;rw [e1,e2',decide_eq_true h0,Bool.true_and]
  by_cases h:(fits (sz (s != t) (x / gcdZ x y)) && fits (sz false (y / gcdZ x y)))=true
  · rw [if_pos h]
    have hb:quoB (sz s x) (sz t y)=true:=hB.trans h
    rw [Bool.and_eq_true] at h
    unfold quoN quoD
    rw [hb,if_pos rfl,if_pos rfl,e1,e2']
    unfold fit
    rw [if_pos h.1,if_pos h.2]
  · rw [if_neg h]
    have hb:quoB (sz s x) (sz t y)=false:=hB.trans (by simpa using h)
    rw [(quo_no hb).1,(quo_no hb).2,hb]

theorem gcd_v (x y:Int) (hx:In2 x) (hy:In2 y) (w:World) :
    Calls Tryz.prog 111 #[.agg #[.int .u64 (hiZ x),.int .u64 (loZ x)],.agg #[.int .u64 (hiZ y),.int .u64 (loZ y)]] w fun e w' =>
      e=.returned (.agg #[.int .u64 (hiZ (gcdZ x y)),.int .u64 (loZ (gcdZ x y))])∧Up w w':=by
  have h:=gcd_up (hiZ x) (loZ x) (hiZ y) (loZ y) (hiZ_word hx) (loZ_word x) (hiZ_word hy) (loZ_word y) w
  rw [val_hilo,val_hilo] at h
  exact h
theorem rgcd_v (x y:Int) (hx:In2 x) (hy:In2 y) (w:World) :
    Calls Tryz.prog 100 #[.agg #[.int .u64 (hiZ x),.int .u64 (loZ x)],.agg #[.int .u64 (hiZ y),.int .u64 (loZ y)]] w fun e w' =>
      e=.returned (.agg #[.int .u64 (hiZ (gcdZ x y)),.int .u64 (loZ (gcdZ x y))])∧Up w w':=by
  have h:=rgcd_up (hiZ x) (loZ x) (hiZ y) (loZ y) (hiZ_word hx) (loZ_word x) (hiZ_word hy) (loZ_word y) w
  rw [val_hilo,val_hilo] at h
  exact h
theorem gcdZ_fact {x y:Int} (hx:In2 x) (hy:In2 y) (h0:y ≠ 0):In2 (gcdZ x y)∧gcdZ x y ≠ 0∧In2 (x / gcdZ x y)∧In2 (y / gcdZ x y):=by
  obtain ⟨x0,x1⟩:=hx;obtain ⟨y0,y1⟩:=hy
  have hp:0<gcdZ x y:=by
    unfold gcdZ
    have:=Nat.gcd_pos_of_pos_right x.toNat (show 0<y.toNat by omega)
    omega
  have hl:gcdZ x y≤y:=by
    unfold gcdZ
    have:=Nat.gcd_le_right x.toNat (show 0<y.toNat by omega)
    omega
  have q1:=Int.ediv_nonneg x0 (Int.le_of_lt hp)
  have q2:=Int.ediv_nonneg y0 (Int.le_of_lt hp)
  have q3:=Int.ediv_le_self (gcdZ x y) x0
  have q4:=Int.ediv_le_self (gcdZ x y) y0
  exact ⟨⟨by omega,by omega⟩,by omega,⟨q1,by omega⟩,⟨q2,by omega⟩⟩

theorem own2 {w w':World} (h:Up w w') (o:Nat):w'.frozen? ⟨w.heap.size+1+1,o,none⟩=false:=h.own 2 o
theorem own1 {w w':World} (h:Up w w') (o:Nat):w'.frozen? ⟨w.heap.size+1,o,none⟩=false:=h.own 1 o
theorem own0 {w w':World} (h:Up w w') (o:Nat):w'.frozen? ⟨w.heap.size,o,none⟩=false:=h.own 0 o

theorem quot_zero (s t:Bool) (x:Int) (w:World) :
    Calls Tryz.prog 96 #[.agg #[.bool s,.int .u64 (hiZ x),.int .u64 (loZ x)],.agg #[.bool t,.int .u64 0,.int .u64 0]] w fun e w'=>e=gotR 0 0 false∧Up w w':=by
  go_enter Tryz.func96,Tryz.ntmps96
  go_wp2
  refine bodyPost_ret (v:=.tuple #[.agg #[.int .i64 0,.int .i64 0],.bool false]) (by simp [results,Tryz.results96,go_sem]) rfl ⟨?_,?_⟩
  · rfl
  · repeat (first | exact Up.refl _ | refine Up.alloc ?_ _ _ | refine Up.setCell ?_ (by first | (simp;done) | (simp;omega) | omega) _ | refine Up.drewN ?_ _ | refine Up.drew ?_)

set_option maxHeartbeats 4000000 in
set_option maxRecDepth 100000 in
theorem quot_pos (s t:Bool) (x y:Int) (hx:In2 x) (hy:In2 y) (h0:y ≠ 0) (w:World) :
    Calls Tryz.prog 96 #[.agg #[.bool s,.int .u64 (hiZ x),.int .u64 (loZ x)],.agg #[.bool t,.int .u64 (hiZ y),.int .u64 (loZ y)]] w fun e w' =>
      e=gotR (quoN (sz s x) (sz t y)) (quoD (sz s x) (sz t y)) (quoB (sz s x) (sz t y))∧Up w w':=by
  obtain ⟨ig,g0,ip,iq⟩:=gcdZ_fact hx hy h0
  have HO:=Lib.hid (quo_out s t x y hx.1 (by obtain ⟨y0,_⟩:=hy;omega))
  have HG:=Lib.hid (fun W=>gcd_v x y hx hy W)
  have HX:=Lib.hid (fun W=>div_v x (gcdZ x y) hx ig g0 W)
  have HY:=Lib.hid (fun W=>div_v y (gcdZ x y) hy ig g0 W)
  have HP:=Lib.hid (fun b (hb:b=(s != t)) W=>(show Calls Tryz.prog 113 #[.agg #[.bool b,.int .u64 (hiZ (x / gcdZ x y)),.int .u64 (loZ (x / gcdZ x y))]] W fun e w'=>e=got (fit (sz (s != t) (x / gcdZ x y))) (fits (sz (s != t) (x / gcdZ x y)))∧Up W w' by subst hb;exact toInt_up (s != t) (x / gcdZ x y) ip W))
  have HQ:=Lib.hid (fun W=>toInt_up false (y / gcdZ x y) iq W)
  have ht:=tests_v h0
  generalize gotR (quoN (sz s x) (sz t y)) (quoD (sz s x) (sz t y)) (quoB (sz s x) (sz t y))=R at *
  generalize fit (sz (s != t) (x / gcdZ x y))=fp at *
  generalize fits (sz (s != t) (x / gcdZ x y))=bp at *
  generalize fit (sz false (y / gcdZ x y))=fq at *
  generalize fits (sz false (y / gcdZ x y))=bq at *
  generalize x % gcdZ x y=rx at *
  generalize y % gcdZ x y=ry at *
  generalize x / gcdZ x y=p at *
  generalize y / gcdZ x y=q at *
  generalize gcdZ x y=g at *
  clear hx hy h0 ig g0 ip iq
  rcases ht with t1 | ⟨t1,t2⟩
  all_goals
    go_enter Tryz.func96,Tryz.ntmps96
    go_wp2_with fail
    refine (HG.out _).mono ?_
    rintro e w1 ⟨rfl,hu1⟩
    try unfold got2
    have c1_0:=hu1.keep (w.heap.size) (0) (.bool s) (by simp [go_sem, *])
    have c1_1:=hu1.keep (w.heap.size) (1) (.int .u64 (hiZ x)) (by simp [go_sem, *])
    have c1_2:=hu1.keep (w.heap.size) (2) (.int .u64 (loZ x)) (by simp [go_sem, *])
    have c1_3:=hu1.keep (w.heap.size+1) (0) (.bool t) (by simp [go_sem, *])
    have c1_4:=hu1.keep (w.heap.size+1) (1) (.int .u64 (hiZ y)) (by simp [go_sem, *])
    have c1_5:=hu1.keep (w.heap.size+1) (2) (.int .u64 (loZ y)) (by simp [go_sem, *])
    have c1_6:=hu1.keep (w.heap.size+1+1) (0) (.int .i64 0) (by simp [go_sem, *])
    have c1_7:=hu1.keep (w.heap.size+1+1) (1) (.int .i64 0) (by simp [go_sem, *])
    have l1_0:w.heap.size<w1.heap.size:=World.block_lt_of_cell? _ _ c1_0
    have m1_0:w.heap.size<w1.heap.size+1:=by omega
    have n1_0:w.heap.size<w1.heap.size+1+1:=by omega
    have x1_0:¬ w1.heap.size=w.heap.size:=by omega
    have y1_0:¬ w1.heap.size+1=w.heap.size:=by omega
    have l1_1:w.heap.size+1<w1.heap.size:=World.block_lt_of_cell? _ _ c1_3
    have m1_1:w.heap.size+1<w1.heap.size+1:=by omega
    have n1_1:w.heap.size+1<w1.heap.size+1+1:=by omega
    have x1_1:¬ w1.heap.size=w.heap.size+1:=by omega
    have y1_1:¬ w1.heap.size+1=w.heap.size+1:=by omega
    have l1_2:w.heap.size+1+1<w1.heap.size:=World.block_lt_of_cell? _ _ c1_6
    have m1_2:w.heap.size+1+1<w1.heap.size+1:=by omega
    have n1_2:w.heap.size+1+1<w1.heap.size+1+1:=by omega
    have x1_2:¬ w1.heap.size=w.heap.size+1+1:=by omega
    have y1_2:¬ w1.heap.size+1=w.heap.size+1+1:=by omega
    have HU1:Hid (Up w w1):=Lib.hid (by ((repeat (first | (with_reducible exact Up.refl _) | (with_reducible refine Up.trans ?_ hu1) | (with_reducible refine Up.alloc ?_ _ _) | (with_reducible refine Up.setCell ?_ ?_ _) | (with_reducible refine Up.drewN ?_ _) | (with_reducible refine Up.drew ?_)));all_goals (first | (simp;done) | (simp;omega) | omega)))
    clear hu1
    go_wp2_with fail
    refine (HX.out _).mono ?_
    rintro e w2 ⟨rfl,hu2⟩
    try unfold got2
    have c2_0:=hu2.keep (w.heap.size) (0) (.bool s) (by simp [go_sem, *])
    have c2_1:=hu2.keep (w.heap.size) (1) (.int .u64 (hiZ x)) (by simp [go_sem, *])
    have c2_2:=hu2.keep (w.heap.size) (2) (.int .u64 (loZ x)) (by simp [go_sem, *])
    have c2_3:=hu2.keep (w.heap.size+1) (0) (.bool t) (by simp [go_sem, *])
    have c2_4:=hu2.keep (w.heap.size+1) (1) (.int .u64 (hiZ y)) (by simp [go_sem, *])
    have c2_5:=hu2.keep (w.heap.size+1) (2) (.int .u64 (loZ y)) (by simp [go_sem, *])
    have c2_6:=hu2.keep (w.heap.size+1+1) (0) (.int .i64 0) (by simp [go_sem, *])
    have c2_7:=hu2.keep (w.heap.size+1+1) (1) (.int .i64 0) (by simp [go_sem, *])
    have c2_8:=hu2.keep (w1.heap.size) (0) (.int .u64 (hiZ g)) (by simp [go_sem, *])
    have c2_9:=hu2.keep (w1.heap.size) (1) (.int .u64 (loZ g)) (by simp [go_sem, *])
    have l2_0:w.heap.size<w2.heap.size:=World.block_lt_of_cell? _ _ c2_0
    have m2_0:w.heap.size<w2.heap.size+1:=by omega
    have n2_0:w.heap.size<w2.heap.size+1+1:=by omega
    have x2_0:¬ w2.heap.size=w.heap.size:=by omega
    have y2_0:¬ w2.heap.size+1=w.heap.size:=by omega
    have l2_1:w.heap.size+1<w2.heap.size:=World.block_lt_of_cell? _ _ c2_3
    have m2_1:w.heap.size+1<w2.heap.size+1:=by omega
    have n2_1:w.heap.size+1<w2.heap.size+1+1:=by omega
    have x2_1:¬ w2.heap.size=w.heap.size+1:=by omega
    have y2_1:¬ w2.heap.size+1=w.heap.size+1:=by omega
    have l2_2:w.heap.size+1+1<w2.heap.size:=World.block_lt_of_cell? _ _ c2_6
    have m2_2:w.heap.size+1+1<w2.heap.size+1:=by omega
    have n2_2:w.heap.size+1+1<w2.heap.size+1+1:=by omega
    have x2_2:¬ w2.heap.size=w.heap.size+1+1:=by omega
    have y2_2:¬ w2.heap.size+1=w.heap.size+1+1:=by omega
    have l2_3:w1.heap.size<w2.heap.size:=World.block_lt_of_cell? _ _ c2_8
    have m2_3:w1.heap.size<w2.heap.size+1:=by omega
    have n2_3:w1.heap.size<w2.heap.size+1+1:=by omega
    have x2_3:¬ w2.heap.size=w1.heap.size:=by omega
    have y2_3:¬ w2.heap.size+1=w1.heap.size:=by omega
    have HU2:Hid (Up w w2):=Lib.hid (by ((repeat (first | (with_reducible exact Up.refl _) | (with_reducible exact HU1.out) | (with_reducible refine Up.trans ?_ hu2) | (with_reducible refine Up.alloc ?_ _ _) | (with_reducible refine Up.setCell ?_ ?_ _) | (with_reducible refine Up.drewN ?_ _) | (with_reducible refine Up.drew ?_)));all_goals (first | (simp;done) | (simp;omega) | omega)))
    clear hu2 c1_0 c1_1 c1_2 c1_3 c1_4 c1_5 c1_6 c1_7
    go_wp2_with fail
    refine (HY.out _).mono ?_
    rintro e w3 ⟨rfl,hu3⟩
    try unfold got2
    have c3_0:=hu3.keep (w.heap.size) (0) (.bool s) (by simp [go_sem, *])
    have c3_1:=hu3.keep (w.heap.size+1) (0) (.bool t) (by simp [go_sem, *])
    have c3_2:=hu3.keep (w.heap.size+1+1) (0) (.int .i64 0) (by simp [go_sem, *])
    have c3_3:=hu3.keep (w.heap.size+1+1) (1) (.int .i64 0) (by simp [go_sem, *])
    have c3_4:=hu3.keep (w2.heap.size) (0) (.int .u64 (hiZ p)) (by simp [go_sem, *])
    have c3_5:=hu3.keep (w2.heap.size) (1) (.int .u64 (loZ p)) (by simp [go_sem, *])
    have l3_0:w.heap.size<w3.heap.size:=World.block_lt_of_cell? _ _ c3_0
    have m3_0:w.heap.size<w3.heap.size+1:=by omega
    have n3_0:w.heap.size<w3.heap.size+1+1:=by omega
    have x3_0:¬ w3.heap.size=w.heap.size:=by omega
    have y3_0:¬ w3.heap.size+1=w.heap.size:=by omega
    have l3_1:w.heap.size+1<w3.heap.size:=World.block_lt_of_cell? _ _ c3_1
    have m3_1:w.heap.size+1<w3.heap.size+1:=by omega
    have n3_1:w.heap.size+1<w3.heap.size+1+1:=by omega
    have x3_1:¬ w3.heap.size=w.heap.size+1:=by omega
    have y3_1:¬ w3.heap.size+1=w.heap.size+1:=by omega
    have l3_2:w.heap.size+1+1<w3.heap.size:=World.block_lt_of_cell? _ _ c3_2
    have m3_2:w.heap.size+1+1<w3.heap.size+1:=by omega
    have n3_2:w.heap.size+1+1<w3.heap.size+1+1:=by omega
    have x3_2:¬ w3.heap.size=w.heap.size+1+1:=by omega
    have y3_2:¬ w3.heap.size+1=w.heap.size+1+1:=by omega
    have l3_3:w2.heap.size<w3.heap.size:=World.block_lt_of_cell? _ _ c3_4
    have m3_3:w2.heap.size<w3.heap.size+1:=by omega
    have n3_3:w2.heap.size<w3.heap.size+1+1:=by omega
    have x3_3:¬ w3.heap.size=w2.heap.size:=by omega
    have y3_3:¬ w3.heap.size+1=w2.heap.size:=by omega
    have HU3:Hid (Up w w3):=Lib.hid (by ((repeat (first | (with_reducible exact Up.refl _) | (with_reducible exact HU2.out) | (with_reducible refine Up.trans ?_ hu3) | (with_reducible refine Up.alloc ?_ _ _) | (with_reducible refine Up.setCell ?_ ?_ _) | (with_reducible refine Up.drewN ?_ _) | (with_reducible refine Up.drew ?_)));all_goals (first | (simp;done) | (simp;omega) | omega)))
    clear hu3 c2_0 c2_1 c2_2 c2_3 c2_4 c2_5 c2_6 c2_7 c2_8 c2_9
    go_wp2_with fail
    refine (HP.out _ (by cases s <;> cases t <;> rfl) _).mono ?_
    rintro e w4 ⟨rfl,hu4⟩
    try unfold got2
    have c4_0:=hu4.keep (w.heap.size+1+1) (0) (.int .i64 0) (by simp [go_sem, *])
    have c4_1:=hu4.keep (w.heap.size+1+1) (1) (.int .i64 0) (by simp [go_sem, *])
    have c4_2:=hu4.keep (w3.heap.size) (0) (.int .u64 (hiZ q)) (by simp [go_sem, *])
    have c4_3:=hu4.keep (w3.heap.size) (1) (.int .u64 (loZ q)) (by simp [go_sem, *])
    have l4_0:w.heap.size+1+1<w4.heap.size:=World.block_lt_of_cell? _ _ c4_0
    have m4_0:w.heap.size+1+1<w4.heap.size+1:=by omega
    have n4_0:w.heap.size+1+1<w4.heap.size+1+1:=by omega
    have x4_0:¬ w4.heap.size=w.heap.size+1+1:=by omega
    have y4_0:¬ w4.heap.size+1=w.heap.size+1+1:=by omega
    have l4_1:w3.heap.size<w4.heap.size:=World.block_lt_of_cell? _ _ c4_2
    have m4_1:w3.heap.size<w4.heap.size+1:=by omega
    have n4_1:w3.heap.size<w4.heap.size+1+1:=by omega
    have x4_1:¬ w4.heap.size=w3.heap.size:=by omega
    have y4_1:¬ w4.heap.size+1=w3.heap.size:=by omega
    have HU4:Hid (Up w w4):=Lib.hid (by ((repeat (first | (with_reducible exact Up.refl _) | (with_reducible exact HU3.out) | (with_reducible refine Up.trans ?_ hu4) | (with_reducible refine Up.alloc ?_ _ _) | (with_reducible refine Up.setCell ?_ ?_ _) | (with_reducible refine Up.drewN ?_ _) | (with_reducible refine Up.drew ?_)));all_goals (first | (simp;done) | (simp;omega) | omega)))
    clear hu4 c3_0 c3_1 c3_2 c3_3 c3_4 c3_5
    go_wp2_with fail
    refine (HQ.out _).mono ?_
    rintro e w5 ⟨rfl,hu5⟩
    try unfold got2
    have c5_0:=hu5.keep (w.heap.size+1+1) (0) (.int .i64 0) (by simp [go_sem, *])
    have c5_1:=hu5.keep (w.heap.size+1+1) (1) (.int .i64 0) (by simp [go_sem, *])
    have l5_0:w.heap.size+1+1<w5.heap.size:=World.block_lt_of_cell? _ _ c5_0
    have m5_0:w.heap.size+1+1<w5.heap.size+1:=by omega
    have n5_0:w.heap.size+1+1<w5.heap.size+1+1:=by omega
    have x5_0:¬ w5.heap.size=w.heap.size+1+1:=by omega
    have y5_0:¬ w5.heap.size+1=w.heap.size+1+1:=by omega
    have HU5:Hid (Up w w5):=Lib.hid (by ((repeat (first | (with_reducible exact Up.refl _) | (with_reducible exact HU4.out) | (with_reducible refine Up.trans ?_ hu5) | (with_reducible refine Up.alloc ?_ _ _) | (with_reducible refine Up.setCell ?_ ?_ _) | (with_reducible refine Up.drewN ?_ _) | (with_reducible refine Up.drew ?_)));all_goals (first | (simp;done) | (simp;omega) | omega)))
    clear hu5 c4_0 c4_1 c4_2 c4_3
    have z0:=own2 HU5.out 0
    have z1:=own2 HU5.out 1
    cases bp
    · have HR:=Lib.hid (show R=gotR 0 0 false from HO.out)
      clear HO
      go_wp2_with fail
      refine bodyPost_ret (v:=.tuple #[.agg #[.int .i64 0,.int .i64 0],.bool false]) (by simp [results,Tryz.results96,go_sem,c5_0,c5_1]) rfl ⟨?_,?_⟩
      · rw [HR.out];rfl
      · repeat (first | exact Up.refl _ | (refine Up.trans ?_ (HU5.out);skip) | refine Up.alloc ?_ _ _ | refine Up.setCell ?_ (by first | (simp;done) | (simp;omega) | omega) _ | refine Up.drewN ?_ _ | refine Up.drew ?_)
    · cases bq
      · have HR:=Lib.hid (show R=gotR 0 0 false from HO.out)
        clear HO
        go_wp2_with fail
        refine bodyPost_ret (v:=.tuple #[.agg #[.int .i64 0,.int .i64 0],.bool false]) (by simp [results,Tryz.results96,go_sem,c5_0,c5_1]) rfl ⟨?_,?_⟩
        · rw [HR.out];rfl
        · repeat (first | exact Up.refl _ | (refine Up.trans ?_ (HU5.out);skip) | refine Up.alloc ?_ _ _ | refine Up.setCell ?_ (by first | (simp;done) | (simp;omega) | omega) _ | refine Up.drewN ?_ _ | refine Up.drew ?_)
      · have HR:=Lib.hid (show R=gotR fp fq true from HO.out)
        clear HO
        go_wp2_with fail
        refine bodyPost_ret (v:=.tuple #[.agg #[.int .i64 fp,.int .i64 fq],.bool true]) (by simp [results,Tryz.results96,go_sem,c5_0,c5_1]) rfl ⟨?_,?_⟩
        · rw [HR.out];rfl
        · repeat (first | exact Up.refl _ | (refine Up.trans ?_ (HU5.out);skip) | refine Up.alloc ?_ _ _ | refine Up.setCell ?_ (by first | (simp;done) | (simp;omega) | omega) _ | refine Up.drewN ?_ _ | refine Up.drew ?_)

end Go.Proofs.YtafkoddgefcpnaaGreat

namespace Go.Proofs.YtafkoddgefcpnaaGreat
open Go.RowKit

/-- What the walk of quotient holds: the result's cells, and the number t in block a. -/
structure Qo (w wr:World) (a:Nat) (t:Int):Prop where
  up:Up w wr
  r0:wr.cell? ⟨w.heap.size+1,0,none⟩=some (.int .i64 0)
  r1:wr.cell? ⟨w.heap.size+1,1,none⟩=some (.int .i64 0)
  t0:wr.cell? ⟨a,0,none⟩=some (.int .u64 (hiZ t))
  t1:wr.cell? ⟨a,1,none⟩=some (.int .u64 (loZ t))
theorem Qo.keep {w w1 w2:World} {a:Nat} {t:Int} (h:Qo w w1 a t) (hu:Up w1 w2):Qo w w2 a t :=
  ⟨h.up.trans hu,hu.keep _ _ _ h.r0,hu.keep _ _ _ h.r1,hu.keep _ _ _ h.t0,hu.keep _ _ _ h.t1⟩
end Go.Proofs.YtafkoddgefcpnaaGreat
