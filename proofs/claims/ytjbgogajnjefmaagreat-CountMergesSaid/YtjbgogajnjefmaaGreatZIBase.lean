/- Package count: parameters, empty states, equal states. -/
import Derived.Test.YtjbgogajnjefmaaGreatZCClock
import Derived.Test.YtjbgogajnjefmaaGreatZGFramem4
import Derived.Test.YtjbgogajnjefmaaGreatZGLawm3
import Derived.Test.YtjbgogajnjefmaaGreatZHOrdm2
import Derived.Test.YtjbgogajnjefmaaGreatZHRVal
import Derived.Test.YtjbgogajnjefmaaGreatZHRowm2
import Derived.Test.YtjbgogajnjefmaaGreatZHSamem4
import Derived.Test.YtjbgogajnjefmaaGreatZHSmallm2
import Derived.Test.YtjbgogajnjefmaaGreatZWKeepm7
import Derived.Test.YtjbgogajnjefmaaGreatZWMathm8
import Derived.Test.YtjbgogajnjefmaaGreatZWShortm3
namespace Go.Proofs.YtjbgogajnjefmaaGreat
open Go.RowKit
set_option linter.unusedVariables false

theorem Up.set5 {w0 w : World} {p : Nat} {v0 v1 v2 v3 v4 : Value} (h : Up w0 w) (hp : w0.heap.size ≤ p) : Up w0 (((((w.setCell ⟨p, 0, none⟩ v0).setCell ⟨p, 1, none⟩ v1).setCell ⟨p, 2, none⟩ v2).setCell ⟨p, 3, none⟩ v3).setCell ⟨p, 4, none⟩ v4) :=
  ((((h.setCell hp _).setCell hp _).setCell hp _).setCell hp _).setCell hp _
theorem Sl.off {w : World} {A : Option Addr} {n p o : Nat} {M : List It} (h : Sl w A n M) (hn : ∀ b o, A = some ⟨b, o, none⟩ → b ≠ p) (x : Value) : Sl (w.setCell ⟨p, o, none⟩ x) A n M := by
  refine ⟨h.1, fun h0 => ?_⟩
  obtain ⟨b, o, e, hc⟩ := h.2 h0
  exact ⟨b, o, e, fun j u hj => (cell_far (fun hp => hn b o e hp.symm)).trans (hc j u hj)⟩
theorem Sl.off5 {w : World} {A : Option Addr} {n p : Nat} {M : List It} (h : Sl w A n M) (hn : ∀ b o, A = some ⟨b, o, none⟩ → b ≠ p) (v0 v1 v2 v3 v4 : Value) : Sl (((((w.setCell ⟨p, 0, none⟩ v0).setCell ⟨p, 1, none⟩ v1).setCell ⟨p, 2, none⟩ v2).setCell ⟨p, 3, none⟩ v3).setCell ⟨p, 4, none⟩ v4) A n M :=
  ((((h.off hn _).off hn _).off hn _).off hn _).off hn _
/-- An address that was not there before. -/
def Nw (w : World) (A : Option Addr) : Prop := ∀ b o, A = some ⟨b, o, none⟩ → w.heap.size ≤ b
theorem Nw.up {w w1 : World} {A : Option Addr} (h : Nw w1 A) (hu : Up w w1) : Nw w A := fun b o e => Nat.le_trans hu.size (h b o e)
theorem Nw.off {w : World} {A : Option Addr} {p : Nat} (h : Nw w A) (hp : p < w.heap.size) : ∀ b o, A = some ⟨b, o, none⟩ → b ≠ p := fun b o e => by have := h b o e; omega
theorem OwB.nw {w0 w : World} {A : Option Addr} {n c : Nat} {L : List It} (h : OwB w0 w (.slice A n c) n L) : Nw w0 A := by
  intro b o e
  rcases Nat.eq_zero_or_pos n with h0 | h0
  · rcases h.2 with ⟨h1, _⟩ | ⟨g, cap, cur, h1, h2, _⟩
    · injection h1 with h1; rw [h1] at e; cases e
    · injection h1 with h1
      rw [h1] at e
      injection e with e
      injection e with e1 e2
      omega
  · obtain ⟨g, rfl, hg, _⟩ := h.ro h0
    injection e with e
    injection e with e1 e2
    omega
theorem OwB.at_ {w0 w : World} {A : Option Addr} {n c : Nat} {L : List It} (h : OwB w0 w (.slice A n c) n L) : n ≤ c ∧ Sl w A n L := by
  obtain ⟨A2, c2, e, h1, h2⟩ := h.sl
  cases e
  exact ⟨h1, h2⟩
theorem keepQ5 {w w1 w2 : World} {b0 o0 b1 o1 b2 o2 b3 o3 b4 o4 : Nat} {x0 x1 x2 x3 x4 : Value} (hu : Hid (Up w1 w2)) (h : Up w w1 ∧ w1.cell? ⟨b0, o0, none⟩ = some x0 ∧ w1.cell? ⟨b1, o1, none⟩ = some x1 ∧ w1.cell? ⟨b2, o2, none⟩ = some x2 ∧ w1.cell? ⟨b3, o3, none⟩ = some x3 ∧ w1.cell? ⟨b4, o4, none⟩ = some x4) : Up w w2 ∧ w2.cell? ⟨b0, o0, none⟩ = some x0 ∧ w2.cell? ⟨b1, o1, none⟩ = some x1 ∧ w2.cell? ⟨b2, o2, none⟩ = some x2 ∧ w2.cell? ⟨b3, o3, none⟩ = some x3 ∧ w2.cell? ⟨b4, o4, none⟩ = some x4 :=
  ⟨h.1.trans hu.out, hu.out.keep _ _ _ h.2.1, hu.out.keep _ _ _ h.2.2.1, hu.out.keep _ _ _ h.2.2.2.1, hu.out.keep _ _ _ h.2.2.2.2.1, hu.out.keep _ _ _ h.2.2.2.2.2⟩
theorem keepQ10 {w w1 w2 : World} {b0 o0 b1 o1 b2 o2 b3 o3 b4 o4 b5 o5 b6 o6 b7 o7 b8 o8 b9 o9 : Nat} {x0 x1 x2 x3 x4 x5 x6 x7 x8 x9 : Value} (hu : Hid (Up w1 w2)) (h : Up w w1 ∧ w1.cell? ⟨b0, o0, none⟩ = some x0 ∧ w1.cell? ⟨b1, o1, none⟩ = some x1 ∧ w1.cell? ⟨b2, o2, none⟩ = some x2 ∧ w1.cell? ⟨b3, o3, none⟩ = some x3 ∧ w1.cell? ⟨b4, o4, none⟩ = some x4 ∧ w1.cell? ⟨b5, o5, none⟩ = some x5 ∧ w1.cell? ⟨b6, o6, none⟩ = some x6 ∧ w1.cell? ⟨b7, o7, none⟩ = some x7 ∧ w1.cell? ⟨b8, o8, none⟩ = some x8 ∧ w1.cell? ⟨b9, o9, none⟩ = some x9) : Up w w2 ∧ w2.cell? ⟨b0, o0, none⟩ = some x0 ∧ w2.cell? ⟨b1, o1, none⟩ = some x1 ∧ w2.cell? ⟨b2, o2, none⟩ = some x2 ∧ w2.cell? ⟨b3, o3, none⟩ = some x3 ∧ w2.cell? ⟨b4, o4, none⟩ = some x4 ∧ w2.cell? ⟨b5, o5, none⟩ = some x5 ∧ w2.cell? ⟨b6, o6, none⟩ = some x6 ∧ w2.cell? ⟨b7, o7, none⟩ = some x7 ∧ w2.cell? ⟨b8, o8, none⟩ = some x8 ∧ w2.cell? ⟨b9, o9, none⟩ = some x9 :=
  ⟨h.1.trans hu.out, hu.out.keep _ _ _ h.2.1, hu.out.keep _ _ _ h.2.2.1, hu.out.keep _ _ _ h.2.2.2.1, hu.out.keep _ _ _ h.2.2.2.2.1, hu.out.keep _ _ _ h.2.2.2.2.2.1, hu.out.keep _ _ _ h.2.2.2.2.2.2.1, hu.out.keep _ _ _ h.2.2.2.2.2.2.2.1, hu.out.keep _ _ _ h.2.2.2.2.2.2.2.2.1, hu.out.keep _ _ _ h.2.2.2.2.2.2.2.2.2.1, hu.out.keep _ _ _ h.2.2.2.2.2.2.2.2.2.2⟩

set_option maxHeartbeats 4000000 in
set_option maxRecDepth 100000 in
theorem validSizes11_any (v q c now : Int) (w : World) :
    Calls Tryz.prog 14 #[.int .i64 v, .int .i64 q, .int .i64 c, .int .i64 now] w fun e w' => e = .returned (.bool (mayC v q c now)) ∧ w = w' := by
  have KF := Lib.hid (first_any now v)
  have e0 : mayC v q c now = ((tickB now && winB v) && (decide (1 ≤ c ∧ c ≤ 65536) && decide (1 ≤ q ∧ q ≤ 64))) := by unfold mayC mayB; rw [Bool.and_assoc]
  rw [e0]
  cases hb : (tickB now && winB v) with
  | false =>
    rw [firZ_no hb] at KF
    clear hb e0
    go_enter Tryz.func14, Tryz.ntmps14
    go_wp2_with (go_at_call 25; (with_reducible refine (KF.out _).mono ?_); rintro e w' ⟨rfl, rfl⟩)
    go_ret
    exact ⟨rfl, rfl⟩
  | true =>
    have h0 := firZ_low hb
    clear hb e0
    generalize firZ now v = x at *
    have t0 : decide (0 ≤ x) = true := decide_eq_true h0
    clear h0
    rw [Bool.true_and]
    cases h1 : decide (1 ≤ q) with
    | false =>
      rw [decide_eq_false (p := 1 ≤ q ∧ q ≤ 64) (fun h => by rw [decide_eq_true h.1] at h1; cases h1), Bool.and_false]
      go_enter Tryz.func14, Tryz.ntmps14
      go_wp2_with (go_at_call 25; (with_reducible refine (KF.out _).mono ?_); rintro e w' ⟨rfl, rfl⟩)
      go_ret
      exact ⟨rfl, rfl⟩
    | true =>
    cases h2 : decide (q ≤ 64) with
    | false =>
      rw [decide_eq_false (p := 1 ≤ q ∧ q ≤ 64) (fun h => by rw [decide_eq_true h.2] at h2; cases h2), Bool.and_false]
      go_enter Tryz.func14, Tryz.ntmps14
      go_wp2_with (go_at_call 25; (with_reducible refine (KF.out _).mono ?_); rintro e w' ⟨rfl, rfl⟩)
      go_ret
      exact ⟨rfl, rfl⟩
    | true =>
    rw [decide_eq_true (p := 1 ≤ q ∧ q ≤ 64) ⟨of_decide_eq_true h1, of_decide_eq_true h2⟩, Bool.and_true]
    cases h3 : decide (1 ≤ c) with
    | false =>
      rw [decide_eq_false (p := 1 ≤ c ∧ c ≤ 65536) (fun h => by rw [decide_eq_true h.1] at h3; cases h3)]
      go_enter Tryz.func14, Tryz.ntmps14
      go_wp2_with (go_at_call 25; (with_reducible refine (KF.out _).mono ?_); rintro e w' ⟨rfl, rfl⟩)
      go_ret
      exact ⟨rfl, rfl⟩
    | true =>
    cases h4 : decide (c ≤ 65536) with
    | false =>
      rw [decide_eq_false (p := 1 ≤ c ∧ c ≤ 65536) (fun h => by rw [decide_eq_true h.2] at h4; cases h4)]
      go_enter Tryz.func14, Tryz.ntmps14
      go_wp2_with (go_at_call 25; (with_reducible refine (KF.out _).mono ?_); rintro e w' ⟨rfl, rfl⟩)
      go_ret
      exact ⟨rfl, rfl⟩
    | true =>
      rw [decide_eq_true (p := 1 ≤ c ∧ c ≤ 65536) ⟨of_decide_eq_true h3, of_decide_eq_true h4⟩]
      go_enter Tryz.func14, Tryz.ntmps14
      go_wp2_with (go_at_call 25; (with_reducible refine (KF.out _).mono ?_); rintro e w' ⟨rfl, rfl⟩)
      go_ret
      exact ⟨rfl, rfl⟩

theorem rmayK11_any (q : Int) (w : World) :
    Calls Tryz.prog 71 #[.int .i64 q] w fun e w' => e = .returned (.bool (decide (1 ≤ q ∧ q ≤ 64))) ∧ w = w' := by
  cases h1 : decide (1 ≤ q) with
  | false =>
    rw [decide_eq_false (p := 1 ≤ q ∧ q ≤ 64) (fun h => by rw [decide_eq_true h.1] at h1; cases h1)]
    go_enter Tryz.func71, Tryz.ntmps71
    go_wp2
    go_ret
    exact ⟨rfl, rfl⟩
  | true =>
  cases h2 : decide (q ≤ 64) with
  | false =>
    rw [decide_eq_false (p := 1 ≤ q ∧ q ≤ 64) (fun h => by rw [decide_eq_true h.2] at h2; cases h2)]
    go_enter Tryz.func71, Tryz.ntmps71
    go_wp2
    go_ret
    exact ⟨rfl, rfl⟩
  | true =>
    rw [decide_eq_true (p := 1 ≤ q ∧ q ≤ 64) ⟨of_decide_eq_true h1, of_decide_eq_true h2⟩]
    go_enter Tryz.func71, Tryz.ntmps71
    go_wp2
    go_ret
    exact ⟨rfl, rfl⟩

set_option maxHeartbeats 4000000 in
set_option maxRecDepth 100000 in
theorem new11_yes (v q c now : Int) (h : mayC v q c now = true) (w : World) :
    Calls Tryz.prog 8 #[.int .i64 v, .int .i64 q, .int .i64 c, .int .i64 now] w fun e w' => e = .returned (.tuple #[.agg #[.int .i64 v, .int .i64 q, .int .i64 c, .int .i64 now, .slice none 0 0], .int .i64 0]) ∧ Up w w' := by
  have KM := Lib.hid (validSizes11_any v q c now)
  rw [h] at KM
  clear h
  go_enter Tryz.func8, Tryz.ntmps8
  go_wp2_with (go_at_call 14; (with_reducible refine (KM.out _).mono ?_); rintro e w' ⟨rfl, rfl⟩)
  refine bodyPost_ret (v := .tuple #[.agg #[.int .i64 v, .int .i64 q, .int .i64 c, .int .i64 now, .slice none 0 0], .int .i64 0]) (by simp [results, Tryz.results8, go_sem]) rfl ⟨?_, ?_⟩
  · rfl
  · repeat (first | exact Up.refl _ | refine Up.alloc ?_ _ _ | refine Up.setCell ?_ (by first | (simp; done) | (simp; omega) | omega) _ | refine Up.drewN ?_ _ | refine Up.drew ?_)

theorem few11_any (v q c now : Int) (n k : Nat) (A : Option Addr) (w : World) :
    Calls Tryz.prog 4 #[.agg #[.int .i64 v, .int .i64 q, .int .i64 c, .int .i64 now, .slice A n k]] w fun e w' => e = .returned (.bool (decide ((n : Int) ≤ 300))) ∧ Up w w' := by
  go_enter Tryz.func4, Tryz.ntmps4
  go_wp2
  go_ret
  refine ⟨rfl, ?_⟩
  repeat (first | exact Up.refl _ | refine Up.alloc ?_ _ _ | refine Up.setCell ?_ (by first | (simp; done) | (simp; omega) | omega) _ | refine Up.drewN ?_ _ | refine Up.drew ?_)
end Go.Proofs.YtjbgogajnjefmaaGreat
