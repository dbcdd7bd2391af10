/- Texts of these claims, one after the other. -/
import Derived.Test.YtchikndofpkjmaaRows
import Derived.Test.YtchikndofpkjmaaZKAppq124
import Derived.Test.YtchikndofpkjmaaZKDisq123
namespace Go.Proofs.Ytchikndofpkjmaa
open Go.RowKit
set_option linter.unusedVariables false

theorem mayM_form (g v q c now : Int) : mayM g v q c now = ((agB g && (decide (1 ≤ q ∧ q ≤ 64) && decide (1 ≤ c ∧ c ≤ 65536))) && (tickB now && winB v)) := by
  unfold mayM mayC mayB
  cases agB g <;> cases tickB now <;> cases winB v <;> cases decide (1 ≤ q ∧ q ≤ 64) <;> cases decide (1 ≤ c ∧ c ≤ 65536) <;> rfl
set_option maxHeartbeats 4000000 in
set_option maxRecDepth 100000 in
theorem validate13_up (g v q c now seq : Int) (n k : Nat) (A : Option Addr) (X : List Mrk) (hn : n ≤ 50000) (w : World) (hS : SG cM w A n X) :
    Calls Try.prog 19 #[.agg #[.int .i64 g, .int .i64 v, .int .i64 q, .int .i64 c, .int .i64 now, .int .i64 seq, .slice A n k]] w fun e w' => e = .returned (.int .i64 (stME g v q c now seq X)) ∧ Up w w' := by
  have KS := Lib.hid (validSizes13_any g q c)
  have KF := Lib.hid (first_any now v)
  have HS := Lib.hid hS
  cases hz : (agB g && (decide (1 ≤ q ∧ q ≤ 64) && decide (1 ≤ c ∧ c ≤ 65536))) with
  | false =>
    rw [stME_no (show stM g v q c now seq X = false by unfold stM; rw [mayM_form, hz]; rfl)]
    rw [hz] at KS
    clear hz hS HS
    go_enter Try.func19, Try.ntmps19
    go_wp2_with (go_at_call 36; (with_reducible refine (KS.out _).mono ?_); rintro e w' ⟨rfl, rfl⟩)
    go_ret
    exact ⟨rfl, (Up.refl w).alloc _ _⟩
  | true =>
  rw [hz] at KS
  cases hb : (tickB now && winB v) with
  | false =>
    rw [stME_no (show stM g v q c now seq X = false by unfold stM; rw [mayM_form, hz, hb]; rfl)]
    rw [firZ_no hb] at KF
    clear hz hb hS HS
    go_enter Try.func19, Try.ntmps19
    go_wp2_with (first | (go_at_call 36; (with_reducible refine (KS.out _).mono ?_); rintro e w' ⟨rfl, rfl⟩) | (go_at_call 37; (with_reducible refine (KF.out _).mono ?_); rintro e w' ⟨rfl, rfl⟩))
    go_ret
    exact ⟨rfl, (Up.refl w).alloc _ _⟩
  | true =>
  have hm : mayM g v q c now = true := by rw [mayM_form, hz, hb]; rfl
  have h0 := firZ_low hb
  clear hz hb
  generalize firZ now v = x at *
  have t0 : decide (x < 0) = false := decide_eq_false (by omega)
  clear h0
  by_cases s1 : seq < 0
  · rw [stME_no (show stM g v q c now seq X = false by unfold stM mrkB sqB; rw [decide_eq_false (p := 0 ≤ seq ∧ seq ≤ 1099511627776) (by omega), Bool.false_and, Bool.false_and, Bool.and_false])]
    have t1 : decide (seq < 0) = true := decide_eq_true s1
    clear s1 hm hS HS
    go_enter Try.func19, Try.ntmps19
    go_wp2_with (first | (go_at_call 36; (with_reducible refine (KS.out _).mono ?_); rintro e w' ⟨rfl, rfl⟩) | (go_at_call 37; (with_reducible refine (KF.out _).mono ?_); rintro e w' ⟨rfl, rfl⟩))
    go_ret
    exact ⟨rfl, (Up.refl w).alloc _ _⟩
  have t1 : decide (seq < 0) = false := decide_eq_false s1
  by_cases s2 : 1099511627776 < seq
  · rw [stME_no (show stM g v q c now seq X = false by unfold stM mrkB sqB; rw [decide_eq_false (p := 0 ≤ seq ∧ seq ≤ 1099511627776) (by omega), Bool.false_and, Bool.false_and, Bool.and_false])]
    have t2 : decide (1099511627776 < seq) = true := decide_eq_true s2
    clear s1 s2 hm hS HS
    go_enter Try.func19, Try.ntmps19
    go_wp2_with (first | (go_at_call 36; (with_reducible refine (KS.out _).mono ?_); rintro e w' ⟨rfl, rfl⟩) | (go_at_call 37; (with_reducible refine (KF.out _).mono ?_); rintro e w' ⟨rfl, rfl⟩))
    go_ret
    exact ⟨rfl, (Up.refl w).alloc _ _⟩
  have t2 : decide (1099511627776 < seq) = false := decide_eq_false s2
  have hq : sqB seq = true := decide_eq_true (by omega)
  have KM := Lib.hid (fun W (h : SG cM W A n X) => validMarks_up g v q c now seq n k A X hm hq hn W h)
  cases hx : mrkB g v c now seq X with
  | false =>
    rw [stME_no (show stM g v q c now seq X = false by unfold stM; rw [hx, Bool.false_and, Bool.and_false])]
    rw [hx] at KM
    clear s1 s2 hm hS hq hx
    go_enter Try.func19, Try.ntmps19
    go_wp2_with (first | (go_at_call 36; (with_reducible refine (KS.out _).mono ?_); rintro e w' ⟨rfl, rfl⟩) | (go_at_call 37; (with_reducible refine (KF.out _).mono ?_); rintro e w' ⟨rfl, rfl⟩) | (go_at_call 47; (with_reducible refine (KM.out _ (HS.out.up ((Up.refl w).alloc _ _))).mono ?_); rintro e w1 ⟨rfl, hu⟩; have HU1 := Lib.hid hu; have c0 := hu.keep w.heap.size 0 (.int .i64 g) (by simp [go_sem]); have c1 := hu.keep w.heap.size 1 (.int .i64 v) (by simp [go_sem]); have c2 := hu.keep w.heap.size 2 (.int .i64 q) (by simp [go_sem]); have c3 := hu.keep w.heap.size 3 (.int .i64 c) (by simp [go_sem]); have c4 := hu.keep w.heap.size 4 (.int .i64 now) (by simp [go_sem]); have c5 := hu.keep w.heap.size 5 (.int .i64 seq) (by simp [go_sem]); have c6 := hu.keep w.heap.size 6 (.slice A n k) (by simp [go_sem]); clear hu))
    go_ret
    exact ⟨rfl, ((Up.refl w).alloc _ _).trans HU1.out⟩
  | true =>
  rw [hx] at KM
  have KD := Lib.hid (fun W (h : SG cM W A n X) => validDistances_up g v q c now seq n k A X hm hx hn W h)
  cases hd : adB g q X with
  | false =>
    rw [stME_no (show stM g v q c now seq X = false by unfold stM; rw [hd, Bool.and_false, Bool.and_false])]
    rw [hd] at KD
    clear s1 s2 hm hS hq hx hd
    go_enter Try.func19, Try.ntmps19
    go_wp2_with (first | (go_at_call 36; (with_reducible refine (KS.out _).mono ?_); rintro e w' ⟨rfl, rfl⟩) | (go_at_call 37; (with_reducible refine (KF.out _).mono ?_); rintro e w' ⟨rfl, rfl⟩) | (go_at_call 47; (with_reducible refine (KM.out _ (HS.out.up ((Up.refl w).alloc _ _))).mono ?_); rintro e w1 ⟨rfl, hu⟩; have HU1 := Lib.hid hu; have c0 := hu.keep w.heap.size 0 (.int .i64 g) (by simp [go_sem]); have c1 := hu.keep w.heap.size 1 (.int .i64 v) (by simp [go_sem]); have c2 := hu.keep w.heap.size 2 (.int .i64 q) (by simp [go_sem]); have c3 := hu.keep w.heap.size 3 (.int .i64 c) (by simp [go_sem]); have c4 := hu.keep w.heap.size 4 (.int .i64 now) (by simp [go_sem]); have c5 := hu.keep w.heap.size 5 (.int .i64 seq) (by simp [go_sem]); have c6 := hu.keep w.heap.size 6 (.slice A n k) (by simp [go_sem]); clear hu) | (go_at_call 48; (with_reducible refine (KD.out _ (HS.out.up (((Up.refl w).alloc _ _).trans HU1.out))).mono ?_); rintro e w2 ⟨rfl, hu⟩; have HU2 := Lib.hid hu; clear hu))
    go_ret
    exact ⟨rfl, (((Up.refl w).alloc _ _).trans HU1.out).trans HU2.out⟩
  | true =>
    rw [stME_yes (stM_yes hm hx hd)]
    rw [hd] at KD
    clear s1 s2 hm hS hq hx hd
    go_enter Try.func19, Try.ntmps19
    go_wp2_with (first | (go_at_call 36; (with_reducible refine (KS.out _).mono ?_); rintro e w' ⟨rfl, rfl⟩) | (go_at_call 37; (with_reducible refine (KF.out _).mono ?_); rintro e w' ⟨rfl, rfl⟩) | (go_at_call 47; (with_reducible refine (KM.out _ (HS.out.up ((Up.refl w).alloc _ _))).mono ?_); rintro e w1 ⟨rfl, hu⟩; have HU1 := Lib.hid hu; have c0 := hu.keep w.heap.size 0 (.int .i64 g) (by simp [go_sem]); have c1 := hu.keep w.heap.size 1 (.int .i64 v) (by simp [go_sem]); have c2 := hu.keep w.heap.size 2 (.int .i64 q) (by simp [go_sem]); have c3 := hu.keep w.heap.size 3 (.int .i64 c) (by simp [go_sem]); have c4 := hu.keep w.heap.size 4 (.int .i64 now) (by simp [go_sem]); have c5 := hu.keep w.heap.size 5 (.int .i64 seq) (by simp [go_sem]); have c6 := hu.keep w.heap.size 6 (.slice A n k) (by simp [go_sem]); clear hu) | (go_at_call 48; (with_reducible refine (KD.out _ (HS.out.up (((Up.refl w).alloc _ _).trans HU1.out))).mono ?_); rintro e w2 ⟨rfl, hu⟩; have HU2 := Lib.hid hu; clear hu))
    go_ret
    exact ⟨rfl, (((Up.refl w).alloc _ _).trans HU1.out).trans HU2.out⟩

set_option maxHeartbeats 4000000 in
set_option maxRecDepth 100000 in
theorem new13_yes (g v q c now : Int) (h : mayM g v q c now = true) (w : World) :
    Calls Try.prog 10 #[.int .i64 g, .int .i64 v, .int .i64 q, .int .i64 c, .int .i64 now] w fun e w' => e = .returned (.tuple #[.agg #[.int .i64 g, .int .i64 v, .int .i64 q, .int .i64 c, .int .i64 now, .int .i64 0, .slice none 0 0], .int .i64 0]) ∧ Up w w' := by
  have KS := Lib.hid (validSizes13_any g q c)
  have KF := Lib.hid (first_any now v)
  rw [mayM_form, Bool.and_eq_true] at h
  rw [h.1] at KS
  have h0 := firZ_low h.2
  clear h
  generalize firZ now v = x at *
  have t0 : decide (x < 0) = false := decide_eq_false (by omega)
  clear h0
  go_enter Try.func10, Try.ntmps10
  go_wp2_with (first | (go_at_call 36; (with_reducible refine (KS.out _).mono ?_); rintro e w' ⟨rfl, rfl⟩) | (go_at_call 37; (with_reducible refine (KF.out _).mono ?_); rintro e w' ⟨rfl, rfl⟩))
  refine bodyPost_ret (v := .tuple #[.agg #[.int .i64 g, .int .i64 v, .int .i64 q, .int .i64 c, .int .i64 now, .int .i64 0, .slice none 0 0], .int .i64 0]) (by simp [results, Try.results10, go_sem]) rfl ⟨?_, ?_⟩
  · rfl
  · repeat (first | exact Up.refl _ | refine Up.alloc ?_ _ _ | refine Up.setCell ?_ (by first | (simp; done) | (simp; omega) | omega) _ | refine Up.drewN ?_ _ | refine Up.drew ?_)

end Go.Proofs.Ytchikndofpkjmaa

namespace Go.Proofs.Ytchikndofpkjmaa
open Go.RowKit
set_option linter.unusedVariables false

theorem mayM_form2 (g v q c now : Int) : mayM g v q c now = (agB g && (mayB v c now && decide (1 ≤ q ∧ q ≤ 64))) := rfl

end Go.Proofs.Ytchikndofpkjmaa
