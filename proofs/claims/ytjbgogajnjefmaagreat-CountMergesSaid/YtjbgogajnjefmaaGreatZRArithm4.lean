/- Texts of these claims, one after the other. -/
import Derived.Test.YtjbgogajnjefmaaGreatZREasym3
import Derived.Test.YtjbgogajnjefmaaGreatZRQuo
import Derived.Test.YtjbgogajnjefmaaGreatZRSum
import Derived.Test.YtjbgogajnjefmaaGreatZRValid
import Derived.Test.YtjbgogajnjefmaaGreatZWAdd
import Derived.Test.YtjbgogajnjefmaaGreatZWGcd
import Derived.Test.YtjbgogajnjefmaaGreatZWMathm8
import Derived.Test.YtjbgogajnjefmaaGreatZWRDiv2
import Derived.Test.YtjbgogajnjefmaaGreatZWShortm3
namespace Go.Proofs.YtjbgogajnjefmaaGreat
open Go.RowKit

/-- A quotient, if the arguments are valid. -/
def vN (v : Bool) (p q : Int) : Int := if v = true then quoN p q else 0
def vD (v : Bool) (p q : Int) : Int := if v = true then quoD p q else 0
def vB (v : Bool) (p q : Int) : Bool := v && quoB p q
theorem v_no (p q : Int) : gotR (vN false p q) (vD false p q) (vB false p q) = gotR 0 0 false := rfl
theorem v_yes (p q : Int) : gotR (vN true p q) (vD true p q) (vB true p q) = gotR (quoN p q) (quoD p q) (quoB p q) := rfl

/-- The two cells of a result hold numbers. -/
def Res2 (w' : World) (b : Nat) : Prop := ∃ v0 v1 : Int, w'.cell? ⟨b, 0, none⟩ = some (.int .i64 v0) ∧ w'.cell? ⟨b, 1, none⟩ = some (.int .i64 v1)
theorem Res2.keep {w1 w2 : World} {b : Nat} (hu : Up w1 w2) (h : Res2 w1 b) : Res2 w2 b := by
  obtain ⟨v0, v1, h0, h1⟩ := h
  exact ⟨v0, v1, hu.keep _ _ _ h0, hu.keep _ _ _ h1⟩
theorem Res2.set0 {w1 : World} {b : Nat} {x : Int} (h : Res2 w1 b) : Res2 (w1.setCell ⟨b, 0, none⟩ (.int .i64 x)) b := by
  obtain ⟨v0, v1, h0, h1⟩ := h
  exact ⟨x, v1, by rw [cell_set h0]; rfl, by rw [cell_set h1]; rfl⟩
theorem Res2.set1 {w1 : World} {b : Nat} {x : Int} (h : Res2 w1 b) : Res2 (w1.setCell ⟨b, 1, none⟩ (.int .i64 x)) b := by
  obtain ⟨v0, v1, h0, h1⟩ := h
  exact ⟨v0, x, by rw [cell_set h0]; rfl, by rw [cell_set h1]; rfl⟩

theorem two_keep {w w1 w2 : World} {n d m c : Int} (hu : Hid (Up w1 w2)) (h : Up w w1 ∧ Res2 w1 (w.heap.size + 1 + 1) ∧ w1.cell? ⟨w.heap.size, 0, none⟩ = some (.int .i64 n) ∧ w1.cell? ⟨w.heap.size, 1, none⟩ = some (.int .i64 d) ∧ w1.cell? ⟨w.heap.size + 1, 0, none⟩ = some (.int .i64 m) ∧ w1.cell? ⟨w.heap.size + 1, 1, none⟩ = some (.int .i64 c)) :
    Up w w2 ∧ Res2 w2 (w.heap.size + 1 + 1) ∧ w2.cell? ⟨w.heap.size, 0, none⟩ = some (.int .i64 n) ∧ w2.cell? ⟨w.heap.size, 1, none⟩ = some (.int .i64 d) ∧ w2.cell? ⟨w.heap.size + 1, 0, none⟩ = some (.int .i64 m) ∧ w2.cell? ⟨w.heap.size + 1, 1, none⟩ = some (.int .i64 c) :=
  ⟨h.1.trans hu.out, Res2.keep hu.out h.2.1, hu.out.keep _ _ _ h.2.2.1, hu.out.keep _ _ _ h.2.2.2.1, hu.out.keep _ _ _ h.2.2.2.2.1, hu.out.keep _ _ _ h.2.2.2.2.2⟩
theorem two_set0 {w w1 : World} {n d m c : Int} {x : Int} (h : Up w w1 ∧ Res2 w1 (w.heap.size + 1 + 1) ∧ w1.cell? ⟨w.heap.size, 0, none⟩ = some (.int .i64 n) ∧ w1.cell? ⟨w.heap.size, 1, none⟩ = some (.int .i64 d) ∧ w1.cell? ⟨w.heap.size + 1, 0, none⟩ = some (.int .i64 m) ∧ w1.cell? ⟨w.heap.size + 1, 1, none⟩ = some (.int .i64 c)) :
    Up w (w1.setCell ⟨w.heap.size + 1 + 1, 0, none⟩ (.int .i64 x)) ∧ Res2 (w1.setCell ⟨w.heap.size + 1 + 1, 0, none⟩ (.int .i64 x)) (w.heap.size + 1 + 1) ∧ (w1.setCell ⟨w.heap.size + 1 + 1, 0, none⟩ (.int .i64 x)).cell? ⟨w.heap.size, 0, none⟩ = some (.int .i64 n) ∧ (w1.setCell ⟨w.heap.size + 1 + 1, 0, none⟩ (.int .i64 x)).cell? ⟨w.heap.size, 1, none⟩ = some (.int .i64 d) ∧ (w1.setCell ⟨w.heap.size + 1 + 1, 0, none⟩ (.int .i64 x)).cell? ⟨w.heap.size + 1, 0, none⟩ = some (.int .i64 m) ∧ (w1.setCell ⟨w.heap.size + 1 + 1, 0, none⟩ (.int .i64 x)).cell? ⟨w.heap.size + 1, 1, none⟩ = some (.int .i64 c) :=
  ⟨h.1.setCell (by show w.heap.size ≤ w.heap.size + 1 + 1; omega) _, h.2.1.set0, (cell_far (by show w.heap.size + 1 + 1 ≠ w.heap.size; omega)).trans h.2.2.1, (cell_far (by show w.heap.size + 1 + 1 ≠ w.heap.size; omega)).trans h.2.2.2.1, (cell_far (by show w.heap.size + 1 + 1 ≠ w.heap.size + 1; omega)).trans h.2.2.2.2.1, (cell_far (by show w.heap.size + 1 + 1 ≠ w.heap.size + 1; omega)).trans h.2.2.2.2.2⟩
theorem two_set1 {w w1 : World} {n d m c : Int} {x : Int} (h : Up w w1 ∧ Res2 w1 (w.heap.size + 1 + 1) ∧ w1.cell? ⟨w.heap.size, 0, none⟩ = some (.int .i64 n) ∧ w1.cell? ⟨w.heap.size, 1, none⟩ = some (.int .i64 d) ∧ w1.cell? ⟨w.heap.size + 1, 0, none⟩ = some (.int .i64 m) ∧ w1.cell? ⟨w.heap.size + 1, 1, none⟩ = some (.int .i64 c)) :
    Up w (w1.setCell ⟨w.heap.size + 1 + 1, 1, none⟩ (.int .i64 x)) ∧ Res2 (w1.setCell ⟨w.heap.size + 1 + 1, 1, none⟩ (.int .i64 x)) (w.heap.size + 1 + 1) ∧ (w1.setCell ⟨w.heap.size + 1 + 1, 1, none⟩ (.int .i64 x)).cell? ⟨w.heap.size, 0, none⟩ = some (.int .i64 n) ∧ (w1.setCell ⟨w.heap.size + 1 + 1, 1, none⟩ (.int .i64 x)).cell? ⟨w.heap.size, 1, none⟩ = some (.int .i64 d) ∧ (w1.setCell ⟨w.heap.size + 1 + 1, 1, none⟩ (.int .i64 x)).cell? ⟨w.heap.size + 1, 0, none⟩ = some (.int .i64 m) ∧ (w1.setCell ⟨w.heap.size + 1 + 1, 1, none⟩ (.int .i64 x)).cell? ⟨w.heap.size + 1, 1, none⟩ = some (.int .i64 c) :=
  ⟨h.1.setCell (by show w.heap.size ≤ w.heap.size + 1 + 1; omega) _, h.2.1.set1, (cell_far (by show w.heap.size + 1 + 1 ≠ w.heap.size; omega)).trans h.2.2.1, (cell_far (by show w.heap.size + 1 + 1 ≠ w.heap.size; omega)).trans h.2.2.2.1, (cell_far (by show w.heap.size + 1 + 1 ≠ w.heap.size + 1; omega)).trans h.2.2.2.2.1, (cell_far (by show w.heap.size + 1 + 1 ≠ w.heap.size + 1; omega)).trans h.2.2.2.2.2⟩

set_option maxHeartbeats 4000000 in
set_option maxRecDepth 100000 in
theorem addr_up (n d m c : Int) (hn : In n) (hd : In d) (hm : In m) (hc : In c) (w : World) :
    Calls Tryz.prog 20 #[.agg #[.int .i64 n, .int .i64 d], .agg #[.int .i64 m, .int .i64 c]] w fun e w' =>
      e = gotR (vN (validB n d && validB m c) (n * c + m * d) (d * c)) (vD (validB n d && validB m c) (n * c + m * d) (d * c)) (vB (validB n d && validB m c) (n * c + m * d) (d * c)) ∧ Up w w' := by
  have HV := Lib.hid (fun W => bothValid_up n d m c hn hd hm hc W)
  obtain ⟨s1, x1, i1, b1, e1, P1⟩ := prod_v n c hn hc
  have H1 := Lib.hid P1
  obtain ⟨s2, x2, i2, b2, e2, P2⟩ := prod_v m d hm hd
  have H2 := Lib.hid P2
  obtain ⟨s3, x3, i3, b3, e3, P3⟩ := prod_v d c hd hc
  have H3 := Lib.hid P3
  have hs : In2 (x1 + x2) := by unfold In2 at *; omega
  have HS := Lib.hid (fun W => sum_up s1 s2 x1 x2 i1 i2 hs W)
  have ev := sum_sz s1 s2 x1 x2
  have iv : In2 (sumV s1 s2 x1 x2) := by unfold sumV In2 at *; repeat (split <;> try omega)
  generalize sumV s1 s2 x1 x2 = xs at *
  generalize sumS s1 s2 x1 x2 = ss at *
  have HQ := Lib.hid (fun W => quot_up ss s3 xs x3 iv i3 W)
  rw [ev, e1, e2, e3] at HQ
  clear P1 P2 P3 i1 i2 i3 b1 b2 b3 e1 e2 e3 hs ev iv
  generalize (validB n d && validB m c) = v at *
  clear hn hd hm hc
  cases v
  · rw [v_no]
    go_enter Tryz.func20, Tryz.ntmps20
    go_wp2_with fail
    refine (HV.out _).mono ?_
    rintro e w1 ⟨rfl, hu1⟩
    try unfold got2
    have c1_0 := hu1.keep (w.heap.size + 1 + 1) (0) (.int .i64 0) (by simp [go_sem, *])
    have c1_1 := hu1.keep (w.heap.size + 1 + 1) (1) (.int .i64 0) (by simp [go_sem, *])
    have l1_0 : w.heap.size + 1 + 1 < w1.heap.size := World.block_lt_of_cell? _ _ c1_0
    have m1_0 : w.heap.size + 1 + 1 < w1.heap.size + 1 := by omega
    have n1_0 : w.heap.size + 1 + 1 < w1.heap.size + 1 + 1 := by omega
    have x1_0 : ¬ w1.heap.size = w.heap.size + 1 + 1 := by omega
    have y1_0 : ¬ w1.heap.size + 1 = w.heap.size + 1 + 1 := by omega
    have HU1 : Hid (Up w w1) := Lib.hid (by ((repeat (first | (with_reducible exact Up.refl _) | (with_reducible refine Up.trans ?_ hu1) | (with_reducible refine Up.alloc ?_ _ _) | (with_reducible refine Up.setCell ?_ ?_ _) | (with_reducible refine Up.drewN ?_ _) | (with_reducible refine Up.drew ?_))); all_goals (first | (simp; done) | (simp; omega) | omega)))
    clear hu1
    have z0 := own2 HU1.out 0
    have z1 := own2 HU1.out 1
    go_wp2_with fail
    refine bodyPost_ret (v := .tuple #[.agg #[.int .i64 0, .int .i64 0], .bool false]) (by simp [results, Tryz.results20, go_sem, c1_0, c1_1]) rfl ⟨?_, ?_⟩
    · rfl
    · ((repeat (first | (with_reducible exact Up.refl _) | (with_reducible exact HU1.out) | (with_reducible refine Up.alloc ?_ _ _) | (with_reducible refine Up.setCell ?_ ?_ _) | (with_reducible refine Up.drewN ?_ _) | (with_reducible refine Up.drew ?_))); all_goals (first | (simp; done) | (simp; omega) | omega))
  · rw [v_yes]
    generalize quoN (n * c + m * d) (d * c) = N at *
    generalize quoD (n * c + m * d) (d * c) = D at *
    generalize quoB (n * c + m * d) (d * c) = B at *
    go_enter Tryz.func20, Tryz.ntmps20
    go_wp2_with fail
    refine (HV.out _).mono ?_
    rintro e w1 ⟨rfl, hu1⟩
    try unfold got2
    have c1_0 := hu1.keep (w.heap.size) (0) (.int .i64 n) (by simp [go_sem, *])
    have c1_1 := hu1.keep (w.heap.size) (1) (.int .i64 d) (by simp [go_sem, *])
    have c1_2 := hu1.keep (w.heap.size + 1) (0) (.int .i64 m) (by simp [go_sem, *])
    have c1_3 := hu1.keep (w.heap.size + 1) (1) (.int .i64 c) (by simp [go_sem, *])
    have c1_4 := hu1.keep (w.heap.size + 1 + 1) (0) (.int .i64 0) (by simp [go_sem, *])
    have c1_5 := hu1.keep (w.heap.size + 1 + 1) (1) (.int .i64 0) (by simp [go_sem, *])
    have l1_0 : w.heap.size < w1.heap.size := World.block_lt_of_cell? _ _ c1_0
    have m1_0 : w.heap.size < w1.heap.size + 1 := by omega
    have n1_0 : w.heap.size < w1.heap.size + 1 + 1 := by omega
    have x1_0 : ¬ w1.heap.size = w.heap.size := by omega
    have y1_0 : ¬ w1.heap.size + 1 = w.heap.size := by omega
    have l1_1 : w.heap.size + 1 < w1.heap.size := World.block_lt_of_cell? _ _ c1_2
    have m1_1 : w.heap.size + 1 < w1.heap.size + 1 := by omega
    have n1_1 : w.heap.size + 1 < w1.heap.size + 1 + 1 := by omega
    have x1_1 : ¬ w1.heap.size = w.heap.size + 1 := by omega
    have y1_1 : ¬ w1.heap.size + 1 = w.heap.size + 1 := by omega
    have l1_2 : w.heap.size + 1 + 1 < w1.heap.size := World.block_lt_of_cell? _ _ c1_4
    have m1_2 : w.heap.size + 1 + 1 < w1.heap.size + 1 := by omega
    have n1_2 : w.heap.size + 1 + 1 < w1.heap.size + 1 + 1 := by omega
    have x1_2 : ¬ w1.heap.size = w.heap.size + 1 + 1 := by omega
    have y1_2 : ¬ w1.heap.size + 1 = w.heap.size + 1 + 1 := by omega
    have HU1 : Hid (Up w w1) := Lib.hid (by ((repeat (first | (with_reducible exact Up.refl _) | (with_reducible refine Up.trans ?_ hu1) | (with_reducible refine Up.alloc ?_ _ _) | (with_reducible refine Up.setCell ?_ ?_ _) | (with_reducible refine Up.drewN ?_ _) | (with_reducible refine Up.drew ?_))); all_goals (first | (simp; done) | (simp; omega) | omega)))
    clear hu1
    go_wp2_with fail
    go_region_held3 (fun w' => Up w w' ∧ Res2 w' (w.heap.size + 1 + 1) ∧ w'.cell? ⟨w.heap.size, 0, none⟩ = some (.int .i64 n) ∧ w'.cell? ⟨w.heap.size, 1, none⟩ = some (.int .i64 d) ∧ w'.cell? ⟨w.heap.size + 1, 0, none⟩ = some (.int .i64 m) ∧ w'.cell? ⟨w.heap.size + 1, 1, none⟩ = some (.int .i64 c))
      (first | (with_reducible exact two_keep (by assumption) (by assumption)) | (exact ⟨HU1.out.drew, ⟨_, _, c1_4, c1_5⟩, c1_0, c1_1, c1_2, c1_3⟩) | (repeat (first | (with_reducible assumption) | (with_reducible exact Hid.out (by assumption)) | (with_reducible refine two_set0 ?_) | (with_reducible refine two_set1 ?_))))
      (first
        | (go_at_call 37; (with_reducible refine (H1.out _).mono ?_); rintro e w' ⟨rfl, hu⟩; have HU := Lib.hid hu; clear hu)
        | (go_at_call 37; (with_reducible refine (H2.out _).mono ?_); rintro e w' ⟨rfl, hu⟩; have HU := Lib.hid hu; clear hu)
        | (go_at_call 37; (with_reducible refine (H3.out _).mono ?_); rintro e w' ⟨rfl, hu⟩; have HU := Lib.hid hu; clear hu)
        | (go_at_call 36; (with_reducible refine (HS.out _).mono ?_); rintro e w' ⟨rfl, hu⟩; have HU := Lib.hid hu; clear hu)
        | (go_at_call 35; (with_reducible refine (HQ.out _).mono ?_); rintro e wq ⟨rfl, hu⟩; have HU := Lib.hid hu; have HSq := Lib.hid (two_keep HU (by assumption)); obtain ⟨r0, r1, k0, k1⟩ := HSq.out.2.1; have z0 := own2 HSq.out.1 0; have z1 := own2 HSq.out.1 1; clear hu; unfold gotR))
    all_goals
      go_wp2_with fail
      refine bodyPost_ret (v := .tuple #[.agg #[.int .i64 N, .int .i64 D], .bool B]) (by simp [results, Tryz.results20, go_sem, k0, k1]) rfl ⟨?_, ?_⟩
      · rfl
      · exact And.left (by assumption)

end Go.Proofs.YtjbgogajnjefmaaGreat

namespace Go.Proofs.YtjbgogajnjefmaaGreat

/-- An answer that is in order; a number that lies in it. -/
def bvB (a b c d e f : Int) : Bool := validB a b && (validB c d && (validB e f && (decide (cmpR a b c d ≤ 0) && decide (cmpR c d e f ≤ 0))))
/-- A number, or zero; one of two numbers. -/
def oz (v : Bool) (n : Int) : Int := if v = true then n else 0
theorem oz_yes (n : Int) : oz true n = n := rfl
theorem oz_no (n : Int) : oz false n = 0 := rfl
/-- An answer of three numbers, with a bool. -/
def gotB (a b c d e f : Int) (ok : Bool) : Ending := .returned (.tuple #[.agg #[.int .i64 a, .int .i64 b, .int .i64 c, .int .i64 d, .int .i64 e, .int .i64 f], .bool ok])

theorem cmpR_val {n d m c : Int} (h : validB n d = true) (k : validB m c = true) : cmpR n d m c = cmpZ (n * c) (m * d) := by
  unfold cmpR; rw [h, k, crossZ_eq]; rfl
theorem le_of_cmpR {n d m c : Int} (h : validB n d = true) (k : validB m c = true) : cmpR n d m c ≤ 0 ↔ n * c ≤ m * d := by
  rw [cmpR_val h k]; exact cmpZ_le

theorem bvB_mk {a b c d e f : Int} (h1 : validB a b = true) (h2 : validB c d = true) (h3 : validB e f = true) (h4 : cmpR a b c d ≤ 0) (h5 : cmpR c d e f ≤ 0) : bvB a b c d e f = true := by
  unfold bvB
  simp only [Bool.and_eq_true, decide_eq_true_eq]
  exact ⟨h1, h2, h3, h4, h5⟩
end Go.Proofs.YtjbgogajnjefmaaGreat

namespace Go.Proofs.YtjbgogajnjefmaaGreat
open Go.RowKit

theorem rkeep4 {w w1 w2 : World} {r b0 o0 b1 o1 b2 o2 b3 o3 : Nat} {x0 x1 x2 x3 : Value} (hu : Hid (Up w1 w2)) (h : Up w w1 ∧ Res2 w1 r ∧ w1.cell? ⟨b0, o0, none⟩ = some x0 ∧ w1.cell? ⟨b1, o1, none⟩ = some x1 ∧ w1.cell? ⟨b2, o2, none⟩ = some x2 ∧ w1.cell? ⟨b3, o3, none⟩ = some x3) : Up w w2 ∧ Res2 w2 r ∧ w2.cell? ⟨b0, o0, none⟩ = some x0 ∧ w2.cell? ⟨b1, o1, none⟩ = some x1 ∧ w2.cell? ⟨b2, o2, none⟩ = some x2 ∧ w2.cell? ⟨b3, o3, none⟩ = some x3 :=
  ⟨h.1.trans hu.out, Res2.keep hu.out h.2.1, hu.out.keep _ _ _ h.2.2.1, hu.out.keep _ _ _ h.2.2.2.1, hu.out.keep _ _ _ h.2.2.2.2.1, hu.out.keep _ _ _ h.2.2.2.2.2⟩
theorem rset4_0 {w w1 : World} {r b0 o0 b1 o1 b2 o2 b3 o3 : Nat} {x0 x1 x2 x3 : Value} {x : Int} (h : Up w w1 ∧ Res2 w1 r ∧ w1.cell? ⟨b0, o0, none⟩ = some x0 ∧ w1.cell? ⟨b1, o1, none⟩ = some x1 ∧ w1.cell? ⟨b2, o2, none⟩ = some x2 ∧ w1.cell? ⟨b3, o3, none⟩ = some x3) (hr : w.heap.size ≤ r) (n0 : r ≠ b0) (n1 : r ≠ b1) (n2 : r ≠ b2) (n3 : r ≠ b3) : Up w (w1.setCell ⟨r, 0, none⟩ (.int .i64 x)) ∧ Res2 (w1.setCell ⟨r, 0, none⟩ (.int .i64 x)) r ∧ (w1.setCell ⟨r, 0, none⟩ (.int .i64 x)).cell? ⟨b0, o0, none⟩ = some x0 ∧ (w1.setCell ⟨r, 0, none⟩ (.int .i64 x)).cell? ⟨b1, o1, none⟩ = some x1 ∧ (w1.setCell ⟨r, 0, none⟩ (.int .i64 x)).cell? ⟨b2, o2, none⟩ = some x2 ∧ (w1.setCell ⟨r, 0, none⟩ (.int .i64 x)).cell? ⟨b3, o3, none⟩ = some x3 :=
  ⟨h.1.setCell hr _, h.2.1.set0, (cell_far n0).trans h.2.2.1, (cell_far n1).trans h.2.2.2.1, (cell_far n2).trans h.2.2.2.2.1, (cell_far n3).trans h.2.2.2.2.2⟩
theorem rset4_1 {w w1 : World} {r b0 o0 b1 o1 b2 o2 b3 o3 : Nat} {x0 x1 x2 x3 : Value} {x : Int} (h : Up w w1 ∧ Res2 w1 r ∧ w1.cell? ⟨b0, o0, none⟩ = some x0 ∧ w1.cell? ⟨b1, o1, none⟩ = some x1 ∧ w1.cell? ⟨b2, o2, none⟩ = some x2 ∧ w1.cell? ⟨b3, o3, none⟩ = some x3) (hr : w.heap.size ≤ r) (n0 : r ≠ b0) (n1 : r ≠ b1) (n2 : r ≠ b2) (n3 : r ≠ b3) : Up w (w1.setCell ⟨r, 1, none⟩ (.int .i64 x)) ∧ Res2 (w1.setCell ⟨r, 1, none⟩ (.int .i64 x)) r ∧ (w1.setCell ⟨r, 1, none⟩ (.int .i64 x)).cell? ⟨b0, o0, none⟩ = some x0 ∧ (w1.setCell ⟨r, 1, none⟩ (.int .i64 x)).cell? ⟨b1, o1, none⟩ = some x1 ∧ (w1.setCell ⟨r, 1, none⟩ (.int .i64 x)).cell? ⟨b2, o2, none⟩ = some x2 ∧ (w1.setCell ⟨r, 1, none⟩ (.int .i64 x)).cell? ⟨b3, o3, none⟩ = some x3 :=
  ⟨h.1.setCell hr _, h.2.1.set1, (cell_far n0).trans h.2.2.1, (cell_far n1).trans h.2.2.2.1, (cell_far n2).trans h.2.2.2.2.1, (cell_far n3).trans h.2.2.2.2.2⟩
end Go.Proofs.YtjbgogajnjefmaaGreat

namespace Go.Proofs.YtjbgogajnjefmaaGreat
open Go.RowKit

theorem xzero {x : Int} (h : x = 0) : (hiZ x == 0) = true ∧ (loZ x == 0) = true := by subst h; decide
theorem sz_scale (s : Bool) (x y : Int) : sz s (x * y) = sz s x * y := by
  cases s
  · rfl
  · show -(x * y) = -x * y; rw [Int.neg_mul]
end Go.Proofs.YtjbgogajnjefmaaGreat
