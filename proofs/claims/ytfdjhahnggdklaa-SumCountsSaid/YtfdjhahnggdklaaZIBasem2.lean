/- Texts of these claims, one after the other. -/
import Derived.Test.YtfdjhahnggdklaaZCClock
import Derived.Test.YtfdjhahnggdklaaZGBasem8
import Derived.Test.YtfdjhahnggdklaaZGLawm3
import Derived.Test.YtfdjhahnggdklaaZHOrdm2
import Derived.Test.YtfdjhahnggdklaaZHRVal
import Derived.Test.YtfdjhahnggdklaaZHRowm3
import Derived.Test.YtfdjhahnggdklaaZHSamem5
import Derived.Test.YtfdjhahnggdklaaZHSmallm7
import Derived.Test.YtfdjhahnggdklaaZWCmpm5
import Derived.Test.YtfdjhahnggdklaaZWMathm9
namespace Go.Proofs.Ytfdjhahnggdklaa
open Go.RowKit
set_option linter.unusedVariables false

theorem Up.set5 {w0 w : World} {p : Nat} {v0 v1 v2 v3 v4 : Value} (h : Up w0 w) (hp : w0.heap.size ≤ p) : Up w0 (((((w.setCell ⟨p, 0, none⟩ v0).setCell ⟨p, 1, none⟩ v1).setCell ⟨p, 2, none⟩ v2).setCell ⟨p, 3, none⟩ v3).setCell ⟨p, 4, none⟩ v4) :=
  ((((h.setCell hp _).setCell hp _).setCell hp _).setCell hp _).setCell hp _
theorem Sl.off {w : World} {A : Option Addr} {n p o : Nat} {M : List It} (h : Sl w A n M) (hn : ∀ b o, A = some ⟨b, o, none⟩ → b ≠ p) (x : Value) : Sl (w.setCell ⟨p, o, none⟩ x) A n M := by
  refine ⟨h.1, fun h0 => ?_⟩
  obtain ⟨b, o, e, hc⟩ := h.2 h0
  exact ⟨b, o, e, fun j u hj => (cell_far (fun hp => hn b o e hp.symm)).trans (hc j u hj)⟩
theorem Sl.off5 {w : World} {A : Option Addr} {n p : Nat} {M : List It} (h : Sl w A n M) (hn : ∀ b o, A = some ⟨b, o, none⟩ → b ≠ p) (v0 v1 v2 v3 v4 : Value) : Sl (((((w.setCell ⟨p, 0, none⟩ v0).setCell ⟨p, 1, none⟩ v1).setCell ⟨p, 2, none⟩ v2).setCell ⟨p, 3, none⟩ v3).setCell ⟨p, 4, none⟩ v4) A n M :=
  ((((h.off hn _).off hn _).off hn _).off hn _).off hn _
/-- The cells of a variable behind a store of all of them. -/
theorem cells5 {w : World} {p : Nat} {v0 v1 v2 v3 v4 x0 x1 x2 x3 x4 : Value} (e0 : w.cell? ⟨p, 0, none⟩ = some x0) (e1 : w.cell? ⟨p, 1, none⟩ = some x1) (e2 : w.cell? ⟨p, 2, none⟩ = some x2) (e3 : w.cell? ⟨p, 3, none⟩ = some x3) (e4 : w.cell? ⟨p, 4, none⟩ = some x4) :
    let W := ((((w.setCell ⟨p, 0, none⟩ v0).setCell ⟨p, 1, none⟩ v1).setCell ⟨p, 2, none⟩ v2).setCell ⟨p, 3, none⟩ v3).setCell ⟨p, 4, none⟩ v4
    W.cell? ⟨p, 0, none⟩ = some v0 ∧ W.cell? ⟨p, 1, none⟩ = some v1 ∧ W.cell? ⟨p, 2, none⟩ = some v2 ∧ W.cell? ⟨p, 3, none⟩ = some v3 ∧ W.cell? ⟨p, 4, none⟩ = some v4 :=
  ⟨cell_set (cell_set (cell_set (cell_set (cell_set (e0))))), cell_set (cell_set (cell_set (cell_set (cell_set (e1))))), cell_set (cell_set (cell_set (cell_set (cell_set (e2))))), cell_set (cell_set (cell_set (cell_set (cell_set (e3))))), cell_set (cell_set (cell_set (cell_set (cell_set (e4)))))⟩
theorem far5 {w : World} {p g o : Nat} {v0 v1 v2 v3 v4 : Value} {u : Value} (h : w.cell? ⟨g, o, none⟩ = some u) (hp : p ≠ g) : (((((w.setCell ⟨p, 0, none⟩ v0).setCell ⟨p, 1, none⟩ v1).setCell ⟨p, 2, none⟩ v2).setCell ⟨p, 3, none⟩ v3).setCell ⟨p, 4, none⟩ v4).cell? ⟨g, o, none⟩ = some u :=
  (cell_far hp).trans ((cell_far hp).trans ((cell_far hp).trans ((cell_far hp).trans ((cell_far hp).trans h))))
/-- An address that was not there before. -/
def Nw (w : World) (A : Option Addr) : Prop := ∀ b o, A = some ⟨b, o, none⟩ → w.heap.size ≤ b
theorem Nw.up {w w1 : World} {A : Option Addr} (h : Nw w1 A) (hu : Up w w1) : Nw w A := fun b o e => Nat.le_trans hu.size (h b o e)
theorem Nw.off {w : World} {A : Option Addr} {p : Nat} (h : Nw w A) (hp : p < w.heap.size) : ∀ b o, A = some ⟨b, o, none⟩ → b ≠ p := fun b o e => by have := h b o e; omega
theorem OwB.nw {w0 w : World} {A : Option Addr} {n c : Nat} {L : List It} (h : OwB w0 w (.slice A n c) n L) : Nw w0 A := by
  intro b o e
  rcases Nat.eq_zero_or_pos n with h0 | h0
  · rcases h.2 with ⟨h1, _⟩ | ⟨g, cap, cur, h1, h2, _⟩
    · injection h1 with h1; rw [h1] at e; cases e
    · injection h1 with h1
      rw [h1] at e
      injection e with e
      injection e with e1 e2
      omega
  · obtain ⟨g, rfl, hg, _⟩ := h.ro h0
    injection e with e
    injection e with e1 e2
    omega
theorem OwB.at_ {w0 w : World} {A : Option Addr} {n c : Nat} {L : List It} (h : OwB w0 w (.slice A n c) n L) : n ≤ c ∧ Sl w A n L := by
  obtain ⟨A2, c2, e, h1, h2⟩ := h.sl
  cases e
  exact ⟨h1, h2⟩
theorem keepQ5 {w w1 w2 : World} {b0 o0 b1 o1 b2 o2 b3 o3 b4 o4 : Nat} {x0 x1 x2 x3 x4 : Value} (hu : Hid (Up w1 w2)) (h : Up w w1 ∧ w1.cell? ⟨b0, o0, none⟩ = some x0 ∧ w1.cell? ⟨b1, o1, none⟩ = some x1 ∧ w1.cell? ⟨b2, o2, none⟩ = some x2 ∧ w1.cell? ⟨b3, o3, none⟩ = some x3 ∧ w1.cell? ⟨b4, o4, none⟩ = some x4) : Up w w2 ∧ w2.cell? ⟨b0, o0, none⟩ = some x0 ∧ w2.cell? ⟨b1, o1, none⟩ = some x1 ∧ w2.cell? ⟨b2, o2, none⟩ = some x2 ∧ w2.cell? ⟨b3, o3, none⟩ = some x3 ∧ w2.cell? ⟨b4, o4, none⟩ = some x4 :=
  ⟨h.1.trans hu.out, hu.out.keep _ _ _ h.2.1, hu.out.keep _ _ _ h.2.2.1, hu.out.keep _ _ _ h.2.2.2.1, hu.out.keep _ _ _ h.2.2.2.2.1, hu.out.keep _ _ _ h.2.2.2.2.2⟩
theorem keepQ6 {w w1 w2 : World} {b0 o0 b1 o1 b2 o2 b3 o3 b4 o4 b5 o5 : Nat} {x0 x1 x2 x3 x4 x5 : Value} (hu : Hid (Up w1 w2)) (h : Up w w1 ∧ w1.cell? ⟨b0, o0, none⟩ = some x0 ∧ w1.cell? ⟨b1, o1, none⟩ = some x1 ∧ w1.cell? ⟨b2, o2, none⟩ = some x2 ∧ w1.cell? ⟨b3, o3, none⟩ = some x3 ∧ w1.cell? ⟨b4, o4, none⟩ = some x4 ∧ w1.cell? ⟨b5, o5, none⟩ = some x5) : Up w w2 ∧ w2.cell? ⟨b0, o0, none⟩ = some x0 ∧ w2.cell? ⟨b1, o1, none⟩ = some x1 ∧ w2.cell? ⟨b2, o2, none⟩ = some x2 ∧ w2.cell? ⟨b3, o3, none⟩ = some x3 ∧ w2.cell? ⟨b4, o4, none⟩ = some x4 ∧ w2.cell? ⟨b5, o5, none⟩ = some x5 :=
  ⟨h.1.trans hu.out, hu.out.keep _ _ _ h.2.1, hu.out.keep _ _ _ h.2.2.1, hu.out.keep _ _ _ h.2.2.2.1, hu.out.keep _ _ _ h.2.2.2.2.1, hu.out.keep _ _ _ h.2.2.2.2.2.1, hu.out.keep _ _ _ h.2.2.2.2.2.2⟩
theorem keepQ7 {w w1 w2 : World} {b0 o0 b1 o1 b2 o2 b3 o3 b4 o4 b5 o5 b6 o6 : Nat} {x0 x1 x2 x3 x4 x5 x6 : Value} (hu : Hid (Up w1 w2)) (h : Up w w1 ∧ w1.cell? ⟨b0, o0, none⟩ = some x0 ∧ w1.cell? ⟨b1, o1, none⟩ = some x1 ∧ w1.cell? ⟨b2, o2, none⟩ = some x2 ∧ w1.cell? ⟨b3, o3, none⟩ = some x3 ∧ w1.cell? ⟨b4, o4, none⟩ = some x4 ∧ w1.cell? ⟨b5, o5, none⟩ = some x5 ∧ w1.cell? ⟨b6, o6, none⟩ = some x6) : Up w w2 ∧ w2.cell? ⟨b0, o0, none⟩ = some x0 ∧ w2.cell? ⟨b1, o1, none⟩ = some x1 ∧ w2.cell? ⟨b2, o2, none⟩ = some x2 ∧ w2.cell? ⟨b3, o3, none⟩ = some x3 ∧ w2.cell? ⟨b4, o4, none⟩ = some x4 ∧ w2.cell? ⟨b5, o5, none⟩ = some x5 ∧ w2.cell? ⟨b6, o6, none⟩ = some x6 :=
  ⟨h.1.trans hu.out, hu.out.keep _ _ _ h.2.1, hu.out.keep _ _ _ h.2.2.1, hu.out.keep _ _ _ h.2.2.2.1, hu.out.keep _ _ _ h.2.2.2.2.1, hu.out.keep _ _ _ h.2.2.2.2.2.1, hu.out.keep _ _ _ h.2.2.2.2.2.2.1, hu.out.keep _ _ _ h.2.2.2.2.2.2.2⟩
theorem keepQ10 {w w1 w2 : World} {b0 o0 b1 o1 b2 o2 b3 o3 b4 o4 b5 o5 b6 o6 b7 o7 b8 o8 b9 o9 : Nat} {x0 x1 x2 x3 x4 x5 x6 x7 x8 x9 : Value} (hu : Hid (Up w1 w2)) (h : Up w w1 ∧ w1.cell? ⟨b0, o0, none⟩ = some x0 ∧ w1.cell? ⟨b1, o1, none⟩ = some x1 ∧ w1.cell? ⟨b2, o2, none⟩ = some x2 ∧ w1.cell? ⟨b3, o3, none⟩ = some x3 ∧ w1.cell? ⟨b4, o4, none⟩ = some x4 ∧ w1.cell? ⟨b5, o5, none⟩ = some x5 ∧ w1.cell? ⟨b6, o6, none⟩ = some x6 ∧ w1.cell? ⟨b7, o7, none⟩ = some x7 ∧ w1.cell? ⟨b8, o8, none⟩ = some x8 ∧ w1.cell? ⟨b9, o9, none⟩ = some x9) : Up w w2 ∧ w2.cell? ⟨b0, o0, none⟩ = some x0 ∧ w2.cell? ⟨b1, o1, none⟩ = some x1 ∧ w2.cell? ⟨b2, o2, none⟩ = some x2 ∧ w2.cell? ⟨b3, o3, none⟩ = some x3 ∧ w2.cell? ⟨b4, o4, none⟩ = some x4 ∧ w2.cell? ⟨b5, o5, none⟩ = some x5 ∧ w2.cell? ⟨b6, o6, none⟩ = some x6 ∧ w2.cell? ⟨b7, o7, none⟩ = some x7 ∧ w2.cell? ⟨b8, o8, none⟩ = some x8 ∧ w2.cell? ⟨b9, o9, none⟩ = some x9 :=
  ⟨h.1.trans hu.out, hu.out.keep _ _ _ h.2.1, hu.out.keep _ _ _ h.2.2.1, hu.out.keep _ _ _ h.2.2.2.1, hu.out.keep _ _ _ h.2.2.2.2.1, hu.out.keep _ _ _ h.2.2.2.2.2.1, hu.out.keep _ _ _ h.2.2.2.2.2.2.1, hu.out.keep _ _ _ h.2.2.2.2.2.2.2.1, hu.out.keep _ _ _ h.2.2.2.2.2.2.2.2.1, hu.out.keep _ _ _ h.2.2.2.2.2.2.2.2.2.1, hu.out.keep _ _ _ h.2.2.2.2.2.2.2.2.2.2⟩

set_option maxHeartbeats 4000000 in
set_option maxRecDepth 100000 in
theorem validSizes11_any (v q c now : Int) (w : World) :
    Calls Try.prog 64 #[.int .i64 v, .int .i64 q, .int .i64 c, .int .i64 now] w fun e w' => e = .returned (.bool (mayC v q c now)) ∧ w = w' := by
  have KF := Lib.hid (first_any now v)
  have e0 : mayC v q c now = ((tickB now && winB v) && (decide (1 ≤ c ∧ c ≤ 65536) && decide (1 ≤ q ∧ q ≤ 64))) := by unfold mayC mayB; rw [Bool.and_assoc]
  rw [e0]
  cases hb : (tickB now && winB v) with
  | false =>
    rw [firZ_no hb] at KF
    clear hb e0
    go_enter Try.func64, Try.ntmps64
    go_wp2_with (go_at_call 41; (with_reducible refine (KF.out _).mono ?_); rintro e w' ⟨rfl, rfl⟩)
    go_ret
    exact ⟨rfl, rfl⟩
  | true =>
    have h0 := firZ_low hb
    clear hb e0
    generalize firZ now v = x at *
    have t0 : decide (0 ≤ x) = true := decide_eq_true h0
    clear h0
    rw [Bool.true_and]
    cases h1 : decide (1 ≤ q) with
    | false =>
      rw [decide_eq_false (p := 1 ≤ q ∧ q ≤ 64) (fun h => by rw [decide_eq_true h.1] at h1; cases h1), Bool.and_false]
      go_enter Try.func64, Try.ntmps64
      go_wp2_with (go_at_call 41; (with_reducible refine (KF.out _).mono ?_); rintro e w' ⟨rfl, rfl⟩)
      go_ret
      exact ⟨rfl, rfl⟩
    | true =>
    cases h2 : decide (q ≤ 64) with
    | false =>
      rw [decide_eq_false (p := 1 ≤ q ∧ q ≤ 64) (fun h => by rw [decide_eq_true h.2] at h2; cases h2), Bool.and_false]
      go_enter Try.func64, Try.ntmps64
      go_wp2_with (go_at_call 41; (with_reducible refine (KF.out _).mono ?_); rintro e w' ⟨rfl, rfl⟩)
      go_ret
      exact ⟨rfl, rfl⟩
    | true =>
    rw [decide_eq_true (p := 1 ≤ q ∧ q ≤ 64) ⟨of_decide_eq_true h1, of_decide_eq_true h2⟩, Bool.and_true]
    cases h3 : decide (1 ≤ c) with
    | false =>
      rw [decide_eq_false (p := 1 ≤ c ∧ c ≤ 65536) (fun h => by rw [decide_eq_true h.1] at h3; cases h3)]
      go_enter Try.func64, Try.ntmps64
      go_wp2_with (go_at_call 41; (with_reducible refine (KF.out _).mono ?_); rintro e w' ⟨rfl, rfl⟩)
      go_ret
      exact ⟨rfl, rfl⟩
    | true =>
    cases h4 : decide (c ≤ 65536) with
    | false =>
      rw [decide_eq_false (p := 1 ≤ c ∧ c ≤ 65536) (fun h => by rw [decide_eq_true h.2] at h4; cases h4)]
      go_enter Try.func64, Try.ntmps64
      go_wp2_with (go_at_call 41; (with_reducible refine (KF.out _).mono ?_); rintro e w' ⟨rfl, rfl⟩)
      go_ret
      exact ⟨rfl, rfl⟩
    | true =>
      rw [decide_eq_true (p := 1 ≤ c ∧ c ≤ 65536) ⟨of_decide_eq_true h3, of_decide_eq_true h4⟩]
      go_enter Try.func64, Try.ntmps64
      go_wp2_with (go_at_call 41; (with_reducible refine (KF.out _).mono ?_); rintro e w' ⟨rfl, rfl⟩)
      go_ret
      exact ⟨rfl, rfl⟩

theorem rmayK11_any (q : Int) (w : World) :
    Calls Try.prog 37 #[.int .i64 q] w fun e w' => e = .returned (.bool (decide (1 ≤ q ∧ q ≤ 64))) ∧ w = w' := by
  cases h1 : decide (1 ≤ q) with
  | false =>
    rw [decide_eq_false (p := 1 ≤ q ∧ q ≤ 64) (fun h => by rw [decide_eq_true h.1] at h1; cases h1)]
    go_enter Try.func37, Try.ntmps37
    go_wp2
    go_ret
    exact ⟨rfl, rfl⟩
  | true =>
  cases h2 : decide (q ≤ 64) with
  | false =>
    rw [decide_eq_false (p := 1 ≤ q ∧ q ≤ 64) (fun h => by rw [decide_eq_true h.2] at h2; cases h2)]
    go_enter Try.func37, Try.ntmps37
    go_wp2
    go_ret
    exact ⟨rfl, rfl⟩
  | true =>
    rw [decide_eq_true (p := 1 ≤ q ∧ q ≤ 64) ⟨of_decide_eq_true h1, of_decide_eq_true h2⟩]
    go_enter Try.func37, Try.ntmps37
    go_wp2
    go_ret
    exact ⟨rfl, rfl⟩

set_option maxHeartbeats 4000000 in
set_option maxRecDepth 100000 in
theorem new11_yes (v q c now : Int) (h : mayC v q c now = true) (w : World) :
    Calls Try.prog 30 #[.int .i64 v, .int .i64 q, .int .i64 c, .int .i64 now] w fun e w' => e = .returned (.tuple #[.agg #[.int .i64 v, .int .i64 q, .int .i64 c, .int .i64 now, .slice none 0 0], .int .i64 0]) ∧ Up w w' := by
  have KM := Lib.hid (validSizes11_any v q c now)
  rw [h] at KM
  clear h
  go_enter Try.func30, Try.ntmps30
  go_wp2_with (go_at_call 64; (with_reducible refine (KM.out _).mono ?_); rintro e w' ⟨rfl, rfl⟩)
  refine bodyPost_ret (v := .tuple #[.agg #[.int .i64 v, .int .i64 q, .int .i64 c, .int .i64 now, .slice none 0 0], .int .i64 0]) (by simp [results, Try.results30, go_sem]) rfl ⟨?_, ?_⟩
  · rfl
  · repeat (first | exact Up.refl _ | refine Up.alloc ?_ _ _ | refine Up.setCell ?_ (by first | (simp; done) | (simp; omega) | omega) _ | refine Up.drewN ?_ _ | refine Up.drew ?_)

end Go.Proofs.Ytfdjhahnggdklaa

namespace Go.Proofs.Ytfdjhahnggdklaa
open Go.RowKit
set_option linter.unusedVariables false

theorem appendG (sl e ty : TypeId) (z : Value) (sz bt : Nat) (ht : Try.prog.underlying sl = some (.slice e)) (hinf : (Try.prog.info? e).map (fun i => (i.zero, i.size, i.bytes)) = some (some z, sz, bt)) (hzs : z.cells.size = sz) (hbt : bt ≤ 1000)
    (w0 w : World) (v : Value) (n : Nat) (cs : List Value) (hO : Rw w0 w e sz v n cs) (hu : Up w0 w) (b o m c : Nat) (ds : List Value) (hd : ds.length = m * sz) (h0 : 0 < m) (hcell : ∀ j u, ds[j]? = some u → w.cell? ⟨b, o + j, none⟩ = some u) (hone : ∀ u ∈ ds, u.oneCell' = true) (hlen : n + m ≤ 1000000) :
    ∃ g' k' w', (Builtin.append_ #[sl, sl] ty #[v, .slice (some ⟨b, o, none⟩) m c]).run Try.prog w = .ok (.slice (some ⟨g', 0, none⟩) (n + m) k') w' ∧ Rw w0 w' e sz (.slice (some ⟨g', 0, none⟩) (n + m) k') (n + m) (cs ++ ds) ∧ Up w0 w' ∧
      (w.heap.size ≤ g' ∨ ∃ n0 k0, v = .slice (some ⟨g', 0, none⟩) n0 k0) ∧ ∀ x, x < w.heap.size → x ≠ g' → w'.heap[x]? = w.heap[x]? := by
  obtain ⟨i, hi, hz, hs, hb⟩ := info_parts hinf
  have h63 : n + m ≤ maxLen := by simp only [maxLen]; omega
  have hbase := hu.size
  have hLn : cs.length = n * sz := hO.1
  have hfl : (cs ++ ds).length = (n + m) * sz := by rw [List.length_append, hLn, hd, Nat.add_mul]
  have hbm : (n + m) * bt ≤ 140737488351232 := Nat.le_trans (Nat.mul_le_mul hlen hbt) (by decide)
  have hmm : m * bt ≤ 140737488351232 := Nat.le_trans (Nat.mul_le_mul_right _ (by omega)) hbm
  have hnews : ∀ j u, ds[j]? = some u → w.cell? ((⟨b, o, none⟩ : Addr).add j) = some u := fun j u hj => by rw [add_at]; exact hcell j u hj
  have hl : ds.length = m * i.size := by rw [hd, hs]
  have grown : ∀ (old : Nat), old < n + m →
    (w.drew.alloc (.cells (cs.toArray ++ ds.toArray ++ Builtin.zeroCells z.cells (grownCap w (n + m) old e - (n + m))) e)).ownsRow w0.heap.size e sz
      (.slice (some ⟨w.heap.size, 0, none⟩) (n + m) (grownCap w (n + m) old e)) (n + m) (cs ++ ds) := by
    intro old ho
    have hge := grownCap_ge w (n + m) old e
    have hcm : grownCap w (n + m) old e ≤ maxLen := grownCap_le_maxLen w (n + m) old _ h63
    refine ⟨hfl, .inr ⟨w.heap.size, _, _, rfl, hbase, heap_alloc_new w.drew _, hge, hcm, ?_, ?_⟩⟩
    · simp only [Array.size_append, List.size_toArray, size_zeroCells, hLn, hd, hzs]
      rw [← Nat.add_mul, ← Nat.add_mul, Nat.add_sub_cancel' hge]
    · simp only [Array.toList_append, List.append_assoc]
      rw [← List.append_assoc, ← hfl]
      exact List.take_left
  have fresh : ∀ (ob : Obj) x, x < w.heap.size → x ≠ w.heap.size → (w.drew.alloc ob).heap[x]? = w.heap[x]? := fun ob x h _ => Below.heap_alloc w.drew ob x h
  rcases hO.2 with ⟨rfl, rfl⟩ | ⟨g, cap, cur, rfl, hbg, hg, hnc, hcm, hcs, htake⟩
  · have hx : cs = [] := List.eq_nil_of_length_eq_zero (by rw [hLn, Nat.zero_mul])
    have hr := run_append_nil (P := Try.prog) w sl ty e i _ ht hi hz ⟨b, o, none⟩ m c ds hl hnews (by omega) (by omega) (by rw [hb]; omega)
    have hgr := grown 0 (by omega)
    rw [hx] at hgr ⊢
    simp only [Nat.zero_add, List.nil_append, Array.empty_append] at hgr ⊢
    exact ⟨_, _, _, hr, hgr, hu.drew.alloc _ _, Or.inl (Nat.le_refl _), fresh _⟩
  · by_cases hroom : n + m ≤ cap
    · have hfit : n * i.size + ds.length ≤ cur.size := by rw [hl, hcs, hs, ← Nat.add_mul]; exact Nat.mul_le_mul_right _ hroom
      have hr := run_append_room (P := Try.prog) w sl ty e i ht hi g n cap cur hg ⟨b, o, none⟩ m c ds hl hnews hone hroom hfit
      obtain ⟨h1, h2⟩ := Cp.set w g cur (cur.toList.take (n * i.size) ++ ds ++ cur.toList.drop (n * i.size + ds.length)).toArray _ hg
      refine ⟨g, cap, _, hr, ⟨hfl, .inr ⟨g, cap, _, rfl, hbg, h2, hroom, hcm, ?_, ?_⟩⟩, h1.up w0 hu hbg, Or.inr ⟨_, _, rfl⟩, fun x _ hne => h1.far x hne⟩
      · simp only [List.size_toArray, List.length_append, List.length_take, List.length_drop, Array.length_toList]
        omega
      · rw [hs, htake, ← hfl]
        exact List.take_left
    · have holds : ∀ j u, cs[j]? = some u → w.cell? ((⟨g, 0, none⟩ : Addr).add j) = some u := World.ownsRow.cells (g := g) hO rfl
      have hr := run_append_grow (P := Try.prog) w sl ty e i _ ht hi hz ⟨g, 0, none⟩ n cap cs (by rw [hs]; exact hO.1) holds ⟨b, o, none⟩ m c ds hl hnews (by omega) (by omega) (growslice_fits (by omega) (by rw [hb]; omega))
      exact ⟨_, _, _, hr, grown cap (by omega), hu.drew.alloc _ _, Or.inl (Nat.le_refl _), fresh _⟩


theorem appendI (w0 w : World) (A : Option Addr) (n k : Nat) (L : List It) (p0 p1 : Int) (hO : Own w0 w (.slice A n k) n L) (hu : Up w0 w) (g : Nat) (hg0 : w.cell? ⟨g, 0, none⟩ = some (.int .i64 p0)) (hg1 : w.cell? ⟨g, 1, none⟩ = some (.int .i64 p1)) (hn : n + 1 ≤ 1000000) :
    ∃ g' k' w', (Builtin.append_ #[41, 41] 41 #[.slice A n k, .slice (some ⟨g, 0, none⟩) 1 1]).run Try.prog w = .ok (.slice (some ⟨g', 0, none⟩) (n + 1) k') w' ∧ Own w0 w' (.slice (some ⟨g', 0, none⟩) (n + 1) k') (n + 1) (L ++ [(p0, p1)]) ∧ Up w0 w' ∧
      (w.heap.size ≤ g' ∨ ∃ o, A = some ⟨g', o, none⟩) ∧ ∀ x o u, x ≠ g' → w.cell? ⟨x, o, none⟩ = some u → w'.cell? ⟨x, o, none⟩ = some u := by
  have hz : (Value.agg #[Value.int IntKind.i64 0, Value.int IntKind.i64 0]).cells.size = 2 := rfl
  obtain ⟨g', k', w', hr, h1, h2, h3, h4⟩ := appendG 41 47 41 _ 2 16 Try.underlying41 item_info hz (by omega) w0 w (.slice A n k) n (fl L) hO hu g 0 1 1 (fl [(p0, p1)]) rfl (by omega) (fun j u hj => by
    rw [Nat.zero_add]
    match j with
    | 0 => simp [fl] at hj; rw [hg0, hj]
    | 1 => simp [fl] at hj; rw [hg1, hj]
    | j + 2 => simp [fl] at hj) (fun u hu => by
      simp [fl] at hu
      rcases hu with rfl | rfl <;> rfl) hn
  rw [← fl_append] at h1
  refine ⟨g', k', w', hr, h1, h2, ?_, fun x o u hx hc => ?_⟩
  · rcases h3 with h | ⟨n0, k0, h⟩
    · exact Or.inl h
    · cases h; exact Or.inr ⟨0, rfl⟩
  · have hl := World.block_lt_of_cell? _ _ hc
    exact (World.cell?_of_block (a := ⟨x, o, none⟩) (h4 x hl hx)).trans hc
/-- Blocks above p. -/
def Ab (p : Nat) (A : Option Addr) : Prop := ∀ b o, A = some ⟨b, o, none⟩ → p < b
theorem Ab.none_ (p : Nat) : Ab p none := fun _ _ e => by cases e
theorem Ab.off {A : Option Addr} {p q : Nat} (h : Ab p A) (hq : q ≤ p) : ∀ b o, A = some ⟨b, o, none⟩ → b ≠ q := fun b o e => by have := h b o e; omega
theorem Sl.stays {w w' : World} {A : Option Addr} {n g : Nat} {M : List It} (h : Sl w A n M) (hs : ∀ x o u, x ≠ g → w.cell? ⟨x, o, none⟩ = some u → w'.cell? ⟨x, o, none⟩ = some u) (hn : ∀ b o, A = some ⟨b, o, none⟩ → b < w.heap.size → b ≠ g) : Sl w' A n M := by
  refine ⟨h.1, fun h0 => ?_⟩
  obtain ⟨b, o, e, hc⟩ := h.2 h0
  exact ⟨b, o, e, fun j u hj => hs b _ u (hn b o e (World.block_lt_of_cell? _ _ (hc j u hj))) (hc j u hj)⟩
theorem Own.lt {w0 w : World} {A : Option Addr} {n k : Nat} {L : List It} (h : Own w0 w (.slice A n k) n L) : ∀ b o, A = some ⟨b, o, none⟩ → b < w.heap.size := Rw.lt (cs := fl L) h
end Go.Proofs.Ytfdjhahnggdklaa
