/- slices.IsSorted of numbers; cmp.Less. -/
import Derived.Test.YtahcpmnbbdgkcaaCFrame
import Derived.Test.YtahcpmnbbdgkcaaCClock
namespace Go.Proofs.Ytahcpmnbbdgkcaa
open Go.RowKit

/-- Ascending, equal neighbours allowed. -/
def ascP (L : List Int) : Prop := ∀ j, j < L.length - 1 → L.getD j 0 ≤ L.getD (j + 1) 0
instance (L : List Int) : Decidable (ascP L) := by unfold ascP; infer_instance
def ascB (L : List Int) : Bool := decide (ascP L)

theorem isNaN_any (x : Int) (w : World) :
    Calls Try.prog 25 #[.int .i64 x] w fun e w' => e = .returned (.bool false) ∧ w' = w := by
  go_enter Try.func25, Try.ntmps25
  go_wp2
  go_ret
  exact ⟨by simp, rfl⟩
theorem less_any (x y : Int) (b : Bool) (hb : decide (x < y) = b) (w : World) :
    Calls Try.prog 24 #[.int .i64 x, .int .i64 y] w fun e w' => e = .returned (.bool b) ∧ w' = w := by
  have K := Lib.hid (isNaN_any x)
  have HB := Lib.hid hb
  clear hb
  go_enter Try.func24, Try.ntmps24
  go_wp2_with (go_at_call 25; (with_reducible refine (K.out _).mono ?_); rintro e w' ⟨rfl, rfl⟩)
  go_ret
  exact ⟨by rw [← HB.out]; first | rfl | simp, rfl⟩

/-- A world that only drew. -/
theorem up_drew {w w' : World} (h : ∃ q, w' = w.drewN q) : Up w w' := by obtain ⟨q, rfl⟩ := h; exact Up.drewN (Up.refl _) _
theorem drew_more {w w' : World} (h : ∃ q, w' = w.drewN q) (n : Nat) : ∃ q, w'.drewN n = w.drewN q := by obtain ⟨q, rfl⟩ := h; exact ⟨q + n, World.drewN_drewN _ _ _⟩
set_option maxHeartbeats 4000000 in
theorem isSorted_q (n k : Nat) (A : Option Addr) (L : List Int) (hz : n * 8 ≤ 140737488351232) (w : World) (hS : Sn w A n L) :
    Calls Try.prog 23 #[.slice A n k] w fun e w' => e = .returned (.bool (ascB L)) ∧ ∃ q, w' = w.drewN q := by
  cases n with
  | zero =>
    have e1 : L = [] := List.length_eq_zero_iff.1 hS.1
    subst e1
    rw [show ascB [] = true from decide_eq_true (fun j hj => absurd hj (Nat.not_lt_zero _))]
    clear hS
    go_enter Try.func23, Try.ntmps23
    go_wp2
    go_loopg [3] 0 (fun k s wr => s = .int .i64 (-1) ∧ wr = w)
    case atStart => exact ⟨rfl, rfl⟩
    case round =>
      obtain ⟨rfl, rfl⟩ := hrel
      go_wp2
      go_ret
      exact ⟨rfl, 0, rfl⟩
  | succ m =>
    obtain ⟨hl, hb⟩ := hS
    obtain ⟨b, o, rfl, hc⟩ := hb (by omega)
    have HC := Lib.hid hc
    have HL := Lib.hid hl
    clear hb hc hl
    generalize hr : ascB L = r
    have HR := Lib.hid hr
    clear hr
    go_enter Try.func23, Try.ntmps23
    go_wp2
    go_loopg [3] m (fun k s wr => ∃ i : Nat, s = .int .i64 i ∧ i ≤ m ∧ i ≤ k ∧ Hid (∃ q, wr = w.drewN q) ∧ Hid (∀ j, i ≤ j → j < m → L.getD j 0 ≤ L.getD (j + 1) 0))
    case atStart => exact ⟨m, by simp, Nat.le_refl _, Nat.le_refl _, Lib.hid ⟨0, rfl⟩, Lib.hid (fun j h1 h2 => by omega)⟩
    case round =>
      obtain ⟨i, rfl, him, hik, HU, HI⟩ := hrel
      cases i with
      | zero =>
        have e1 : r = true := by
          rw [← HR.out]
          exact decide_eq_true (fun j hj => HI.out j (Nat.zero_le _) (by rw [HL.out] at hj; omega))
        subst e1
        go_wp2
        go_ret
        exact ⟨rfl, HU.out⟩
      | succ t =>
        have c1 : wr.cell? ⟨b, o + (t + 1), none⟩ = some (.int .i64 (L.getD (t + 1) 0)) := (up_drew HU.out).keep _ _ _ (HC.out _ (by omega))
        have c2 : wr.cell? ⟨b, o + t, none⟩ = some (.int .i64 (L.getD t 0)) := (up_drew HU.out).keep _ _ _ (HC.out _ (by omega))
        have eq1 : ((t + 1 : Nat) : Int) = (t : Int) + 1 := by omega
        rw [eq1]
        have p1 : (0 : Int) < (t : Int) + 1 := by omega
        have p2 : (0 : Int) ≤ (t : Int) + 1 := by omega
        have p3 : (t : Int) + 1 < (m : Int) + 1 := by omega
        have p4 : (t : Int) < (m : Int) + 1 := by omega
        have p5 : ((t : Int) + 1).toNat = t + 1 := by omega
        have p6 : IntKind.i64.wrap ((t : Int) + 1) = (t : Int) + 1 := IntWalk.i64_in _ (by omega)
        have p7 : IntKind.i64.wrap (t : Int) = (t : Int) := IntWalk.i64_in _ (by omega)
        by_cases hx : L.getD (t + 1) 0 < L.getD t 0
        · have e1 : r = false := by
            rw [← HR.out]
            exact decide_eq_false (fun h => by have := h t (by rw [HL.out]; omega); omega)
          subst e1
          have K := Lib.hid (less_any (L.getD (t + 1) 0) (L.getD t 0) true (decide_eq_true hx))
          generalize L.getD (t + 1) 0 = x at c1 K
          generalize L.getD t 0 = y at c2 K
          clear HI HC HL HR hx
          go_wp2_with fail
          go_quiet (first | (go_at_call 24; refine Calls.quiet_of_same (K.out _)))
          go_wp2
          go_ret
          exact ⟨rfl, drew_more HU.out _⟩
        · have K := Lib.hid (less_any (L.getD (t + 1) 0) (L.getD t 0) false (decide_eq_false hx))
          have HX := Lib.hid (Int.not_lt.1 hx)
          generalize hx1 : L.getD (t + 1) 0 = x at c1 K HX
          generalize hx2 : L.getD t 0 = y at c2 K HX
          have HX1 := Lib.hid hx1
          have HX2 := Lib.hid hx2
          clear hx hx1 hx2
          go_wp2_with fail
          go_quiet (first | (go_at_call 24; refine Calls.quiet_of_same (K.out _)))
          go_wp2
          go_roundg t
          case measure => omega
          case rel =>
            refine ⟨t, by first | rfl | simp, by omega, Nat.le_refl _, Lib.hid (drew_more HU.out _), Lib.hid (fun j h1 h2 => ?_)⟩
            rcases Nat.eq_or_lt_of_le h1 with rfl | h3
            · rw [HX1.out, HX2.out]; exact HX.out
            · exact HI.out j (by omega) h2

/-! ### Lists in order -/
theorem ascP_cons {x y : Int} {M : List Int} (h : ascP (x :: y :: M)) : x ≤ y ∧ ascP (y :: M) :=
  ⟨h 0 (by simp), fun j hj => h (j + 1) (by simp at hj ⊢; omega)⟩
theorem ascP_low {x : Int} {M : List Int} (h : ascP (x :: M)) : ∀ y ∈ M, x ≤ y := by
  induction M generalizing x with
  | nil => intro y hy; cases hy
  | cons z M ih =>
    obtain ⟨h1, h2⟩ := ascP_cons h
    intro y hy
    rcases List.mem_cons.1 hy with rfl | hy
    · exact h1
    · exact Int.le_trans h1 (ih h2 y hy)
theorem ascP_tail {x : Int} {M : List Int} (h : ascP (x :: M)) : ascP M := by
  cases M with
  | nil => exact fun j hj => absurd hj (Nat.not_lt_zero _)
  | cons z M => exact (ascP_cons h).2
/-- How many elements are less than f. -/
def cntN (f : Int) (L : List Int) : Nat := L.countP (fun x => decide (x < f))
theorem cntN_le (f : Int) (L : List Int) : cntN f L ≤ L.length := List.countP_le_length
theorem cntN_place {f : Int} {L : List Int} (h : ascP L) : ∀ i, i < L.length → (cntN f L ≤ i ↔ f ≤ L.getD i 0) := by
  induction L with
  | nil => intro i hi; simp at hi
  | cons x M ih =>
    intro i hi
    by_cases hx : x < f
    · have e1 : cntN f (x :: M) = cntN f M + 1 := by simp [cntN, hx]
      rw [e1]
      cases i with
      | zero => simp; omega
      | succ j =>
        have := ih (ascP_tail h) j (by simpa using hi)
        simp only [List.getD_cons_succ]
        omega
    · have e1 : cntN f (x :: M) = 0 := by
        simp only [cntN, List.countP_eq_zero, List.mem_cons, decide_eq_true_eq]
        rintro y (rfl | hy)
        · exact hx
        · have := ascP_low h y hy; omega
      rw [e1]
      refine ⟨fun _ => ?_, fun _ => Nat.zero_le _⟩
      cases i with
      | zero => simp; omega
      | succ j =>
        have hj : j < M.length := by simpa using hi
        have := ascP_low h (M.getD j 0) (by simp [List.getD, hj])
        simp only [List.getD_cons_succ]
        omega
/-- A list of ticks up to now, in ascending order. -/
def pastP (L : List Int) (now : Int) : Prop := ascP L ∧ ∀ x ∈ L, 0 ≤ x ∧ x ≤ now
instance (L : List Int) (now : Int) : Decidable (pastP L now) := by unfold pastP; infer_instance
def pastB (L : List Int) (now : Int) : Bool := decide (pastP L now)
theorem pastB_nil (now : Int) : pastB [] now = true := decide_eq_true ⟨fun j hj => absurd hj (Nat.not_lt_zero _), fun x hx => by cases hx⟩
theorem ascP_high {L : List Int} (h : ascP L) : ∀ m, L.length = m + 1 → ∀ y ∈ L, y ≤ L.getD m 0 := by
  induction L with
  | nil => intro m hm; simp at hm
  | cons x M ih =>
    intro m hm y hy
    cases m with
    | zero =>
      have : M = [] := List.length_eq_zero_iff.1 (by simpa using hm)
      subst this
      simp at hy
      subst hy
      simp
    | succ m =>
      have hM : M.length = m + 1 := by simpa using hm
      simp only [List.getD_cons_succ]
      rcases List.mem_cons.1 hy with rfl | hy
      · exact ascP_low h _ (by simp [List.getD, hM])
      · exact ih (ascP_tail h) m hM y hy
theorem pastB_ends {L : List Int} {m : Nat} (hm : L.length = m + 1) (now : Int) : pastB L now = (ascB L && decide (0 ≤ L.getD 0 0) && decide (L.getD m 0 ≤ now)) := by
  have key : pastP L now ↔ (ascP L ∧ 0 ≤ L.getD 0 0) ∧ L.getD m 0 ≤ now := by
    constructor
    · intro ⟨h1, h2⟩
      exact ⟨⟨h1, (h2 _ (by simp [List.getD, hm])).1⟩, (h2 _ (by simp [List.getD, hm])).2⟩
    · intro ⟨⟨h1, h2⟩, h3⟩
      refine ⟨h1, fun x hx => ⟨?_, Int.le_trans (ascP_high h1 m hm x hx) h3⟩⟩
      cases L with
      | nil => cases hx
      | cons z M =>
        simp at h2
        rcases List.mem_cons.1 hx with rfl | hx
        · exact h2
        · exact Int.le_trans h2 (ascP_low h1 x hx)
  unfold pastB ascB
  simp only [key, Bool.decide_and]
/-- What Expired returns. -/
def expZ (L : List Int) (now v : Int) : Int := if (tickB now && winB v && pastB L now) = true then (cntN (firZ now v) L : Int) else -1
end Go.Proofs.Ytahcpmnbbdgkcaa
