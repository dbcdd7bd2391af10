/- Texts of these claims, one after the other. -/
import Derived.Test.YtafkoddgefcpnaaRows
import Derived.Test.YtafkoddgefcpnaaZIAppq119
namespace Go.Proofs.Ytafkoddgefcpnaa

theorem anti_of_adj {f : Nat → Int} {n : Nat} (h : ∀ j, j + 1 < n → f (j + 1) ≤ f j) : ∀ d i, i + d < n → f (i + d) ≤ f i := by
  intro d
  induction d with
  | zero => intro i _; exact Int.le_refl _
  | succ d ih => intro i hi; exact Int.le_trans (h (i + d) (by omega)) (ih i (by omega))
theorem inM_get {s t v : Int} {X : List Mrk} {j : Nat} (h : j < X.length) : (inM s t v X).getD j mk0 = incM v (X.getD j mk0) := by
  unfold inM
  rw [List.getD_eq_getElem?_getD, List.getElem?_append_left (by rw [List.length_map]; exact h), List.getElem?_map, List.getD_eq_getElem?_getD, List.getElem?_eq_getElem h]
  rfl
theorem inM_last (s t v : Int) (X : List Mrk) : (inM s t v X).getD X.length mk0 = oneM s t v := by
  unfold inM
  rw [List.getD_eq_getElem?_getD, List.getElem?_append_right (by simp)]
  simp
theorem ofZ4 {a b c d e lo hi : Int} (h1 : -4096 ≤ lo) (h2 : lo ≤ 4096) (h3 : -4096 ≤ hi) (h4 : hi ≤ 4096) : ofZ 4 ⟨a, b, c, d, e, lo, hi⟩ = hi - lo := by
  have e : fit64 (hi - lo) = true := decide_eq_true (by omega)
  show (if fit64 (hi - lo) = true then hi - lo else 0) = _
  rw [if_pos e]
theorem min_b {x v : Int} (h1 : -4096 ≤ x) (h2 : x ≤ 4096) (h3 : -4096 ≤ v) (h4 : v ≤ 4096) : -4096 ≤ min x v ∧ min x v ≤ 4096 ∧ -4096 ≤ max x v ∧ max x v ≤ 4096 := by omega
/-- No aggregate rises from mark to mark, behind one more item. -/
theorem inM_anti {g w c now seq v s t : Int} {X : List Mrk} (hg : 1 ≤ g ∧ g ≤ 4) (h : ∀ j, j < X.length → OkB g w c now seq X j) (hv : valG g v) {i j : Nat} (hij : i ≤ j) (hj : j < X.length + 1) : ofZ g ((inM s t v X).getD j mk0) ≤ ofZ g ((inM s t v X).getD i mk0) := by
  have main := anti_of_adj (f := fun j => ofZ g ((inM s t v X).getD j mk0)) (n := X.length + 1) (fun j hj => by
    show ofZ g ((inM s t v X).getD (j + 1) mk0) ≤ ofZ g ((inM s t v X).getD j mk0)
    have ha := h j (by omega)
    rw [inM_get (show j < X.length by omega)]
    have a1 := ha.lo
    have a2 := ha.hi
    have a3 := ha.prt
    have a4 := ha.num
    have a5 := ha.sq2
    have hga : g = 1 ∨ g = 2 ∨ g = 3 ∨ g = 4 := by omega
    by_cases hl : j + 1 < X.length
    · rw [inM_get hl]
      have hb := h (j + 1) hl
      have b0 := hb.asc (by omega)
      have b1 := hb.lo
      have b2 := hb.hi
      have b3 := hb.num
      have b4 := hb.nlo (by omega)
      have b5 := hb.nhi (by omega)
      have b6 := hb.nprt (by omega)
      rw [Nat.add_sub_cancel] at b0 b4 b5 b6
      generalize X.getD (j + 1) mk0 = B at *
      generalize X.getD j mk0 = A at *
      obtain ⟨p1, p2, p3, p4, p5⟩ := b6
      rcases hga with rfl | rfl | rfl | rfl
      · show B.n + 1 ≤ A.n + 1; omega
      · show B.s + v ≤ A.s + v
        have := a1.2.2
        have : 0 ≤ (A.n - B.n) * A.lo := Int.mul_nonneg (by omega) (by omega)
        omega
      · show B.q + v * v ≤ A.q + v * v; omega
      · obtain ⟨v1, v2, _⟩ := hv
        obtain ⟨u1, u2, _⟩ := a1
        obtain ⟨u3, u4, _⟩ := a2
        obtain ⟨u5, u6, _⟩ := b1
        obtain ⟨u7, u8, _⟩ := b2
        have m1 := min_b u1 u2 v1 v2
        have m2 := min_b u3 u4 v1 v2
        have m3 := min_b u5 u6 v1 v2
        have m4 := min_b u7 u8 v1 v2
        unfold incM
        rw [ofZ4 m3.1 m3.2.1 m4.2.2.1 m4.2.2.2, ofZ4 m1.1 m1.2.1 m2.2.2.1 m2.2.2.2]
        omega
    · have hx : j + 1 = X.length := by omega
      rw [hx, inM_last]
      generalize X.getD j mk0 = A at *
      obtain ⟨p1, p2, p3, p4, p5⟩ := a3
      rcases hga with rfl | rfl | rfl | rfl
      · show (1 : Int) ≤ A.n + 1; omega
      · show v ≤ A.s + v
        have := a1.2.2
        have : 0 ≤ A.n * A.lo := Int.mul_nonneg (by omega) (by omega)
        omega
      · show v * v ≤ A.q + v * v; omega
      · obtain ⟨v1, v2, _⟩ := hv
        obtain ⟨u1, u2, _⟩ := a1
        obtain ⟨u3, u4, _⟩ := a2
        have m1 := min_b u1 u2 v1 v2
        have m2 := min_b u3 u4 v1 v2
        unfold incM oneM
        rw [ofZ4 v1 v2 v1 v2, ofZ4 m1.1 m1.2.1 m2.2.2.1 m2.2.2.2]
        omega)
  have := main (j - i) i (by omega)
  rw [show i + (j - i) = j by omega] at this
  exact this
/-- What is not close, is not close further on. -/
theorem clM_anti {g k : Int} {a b c : Mrk} (hk : 1 ≤ k) (h : ofZ g c ≤ ofZ g b) (hc : clM g k a b = false) : clM g k a c = false := by
  unfold clM at *
  rw [decide_eq_false_iff_not] at *
  intro hx
  refine hc (Int.le_trans hx (Int.mul_le_mul_of_nonneg_left h (by omega)))
/-- How great the aggregates are behind one more item. -/
theorem inM_bd {g w c now seq v s t : Int} {X : List Mrk} (hg : 1 ≤ g ∧ g ≤ 4) (hc : c ≤ 65536) (hs : seq ≤ 1099511627776) (h : ∀ j, j < X.length → OkB g w c now seq X j) (hv : valG g v) {j : Nat} (hj : j < X.length + 1) : -1152921504606846976 ≤ ofZ g ((inM s t v X).getD j mk0) * 65 ∧ ofZ g ((inM s t v X).getD j mk0) * 65 ≤ 1152921504606846976 := by
  obtain ⟨v1, v2, _⟩ := hv
  have vv := sq_bd (x := v) (m := 4096) (by omega) v2
  have vn := sq_nn v
  have hga : g = 1 ∨ g = 2 ∨ g = 3 ∨ g = 4 := by omega
  by_cases hl : j < X.length
  · rw [inM_get hl]
    obtain ⟨⟨n1, n2⟩, ⟨s1, s2⟩, ⟨q1, q2⟩, ⟨l1, l2⟩, ⟨h1, h2⟩, _⟩ := (h j hl).bd hc hs
    generalize X.getD j mk0 = A at *
    rcases hga with rfl | rfl | rfl | rfl
    · show _ ≤ (A.n + 1) * 65 ∧ (A.n + 1) * 65 ≤ _; omega
    · show _ ≤ (A.s + v) * 65 ∧ (A.s + v) * 65 ≤ _; omega
    · show _ ≤ (A.q + v * v) * 65 ∧ (A.q + v * v) * 65 ≤ _
      generalize v * v = y at *
      omega
    · have m1 := min_b l1 l2 v1 v2
      have m2 := min_b h1 h2 v1 v2
      unfold incM
      rw [ofZ4 m1.1 m1.2.1 m2.2.2.1 m2.2.2.2]
      omega
  · have hx : j = X.length := by omega
    rw [hx, inM_last]
    rcases hga with rfl | rfl | rfl | rfl
    · show _ ≤ (1 : Int) * 65 ∧ (1 : Int) * 65 ≤ _; omega
    · show _ ≤ v * 65 ∧ v * 65 ≤ _; omega
    · show _ ≤ (v * v) * 65 ∧ (v * v) * 65 ≤ _
      generalize v * v = y at *
      omega
    · unfold oneM
      rw [ofZ4 v1 v2 v1 v2]
      omega
end Go.Proofs.Ytafkoddgefcpnaa

namespace Go.Proofs.Ytafkoddgefcpnaa
open Go.RowKit
set_option linter.unusedVariables false

theorem ofZ_4 (sq t n s q lo hi : Int) : ofZ 4 ⟨sq, t, n, s, q, lo, hi⟩ = fit (hi - lo) := by
  rfl
set_option maxHeartbeats 4000000 in
theorem of13_up (g sq t n s q lo hi : Int) (hl : In lo) (hh : In hi) (w : World) :
    Calls Try.prog 16 #[.agg #[.int .i64 sq, .int .i64 t, .int .i64 n, .int .i64 s, .int .i64 q, .int .i64 lo, .int .i64 hi], .int .i64 g] w fun e w' => e = .returned (.int .i64 (ofZ g ⟨sq, t, n, s, q, lo, hi⟩)) ∧ Up w w' := by
  by_cases h1 : g = 1
  · subst h1
    rw [show ofZ 1 ⟨sq, t, n, s, q, lo, hi⟩ = n from rfl]
    go_enter Try.func16, Try.ntmps16
    go_wp2
    go_ret
    exact ⟨rfl, (Up.refl w).alloc _ _⟩
  by_cases h2 : g = 2
  · subst h2
    rw [show ofZ 2 ⟨sq, t, n, s, q, lo, hi⟩ = s from rfl]
    clear h1
    go_enter Try.func16, Try.ntmps16
    go_wp2
    go_ret
    exact ⟨rfl, (Up.refl w).alloc _ _⟩
  by_cases h3 : g = 3
  · subst h3
    rw [show ofZ 3 ⟨sq, t, n, s, q, lo, hi⟩ = q from rfl]
    clear h1 h2
    go_enter Try.func16, Try.ntmps16
    go_wp2
    go_ret
    exact ⟨rfl, (Up.refl w).alloc _ _⟩
  by_cases h4 : g = 4
  · subst h4
    rw [ofZ_4]
    have KS := Lib.hid (sub_any hi lo hh hl)
    have HF : fits (hi - lo) = false → fit (hi - lo) = 0 := fun h => by unfold fit; rw [h]; rfl
    cases hf : fits (hi - lo) with
    | false =>
      have e0 := HF hf
      rw [hf, e0] at KS
      rw [e0]
      clear h1 h2 h3 HF hf e0
      go_enter Try.func16, Try.ntmps16
      go_wp2_with (go_at_call 59; (with_reducible refine (KS.out _).mono ?_); rintro e w' ⟨rfl, rfl⟩)
      go_ret
      exact ⟨rfl, (Up.refl w).alloc _ _⟩
    | true =>
      rw [hf] at KS
      clear HF hf
      generalize fit (hi - lo) = y at *
      clear h1 h2 h3
      go_enter Try.func16, Try.ntmps16
      go_wp2_with (go_at_call 59; (with_reducible refine (KS.out _).mono ?_); rintro e w' ⟨rfl, rfl⟩)
      go_ret
      exact ⟨rfl, (Up.refl w).alloc _ _⟩
  · rw [show ofZ g ⟨sq, t, n, s, q, lo, hi⟩ = 0 by unfold ofZ; rw [if_neg h1, if_neg h2, if_neg h3, if_neg h4]]
    have t1 : (g == 1) = false := beq_eq_false_iff_ne.2 h1
    have t2 : (g == 2) = false := beq_eq_false_iff_ne.2 h2
    have t3 : (g == 3) = false := beq_eq_false_iff_ne.2 h3
    have t4 : (g == 4) = false := beq_eq_false_iff_ne.2 h4
    go_enter Try.func16, Try.ntmps16
    go_wp2
    go_ret
    exact ⟨rfl, (Up.refl w).alloc _ _⟩
set_option maxHeartbeats 4000000 in
set_option maxRecDepth 100000 in
theorem rmayAgg_any (g : Int) (w : World) :
    Calls Try.prog 55 #[.int .i64 g] w fun e w' => e = .returned (.bool (agB g)) ∧ w = w' := by
  have HV : agB g = decide (1 ≤ g ∧ g ≤ 4) := by unfold agB; simp [Bool.decide_and]
  rw [HV]
  clear HV
  have HB : Hid (∀ _ : ¬ (1 ≤ g ∧ g ≤ 4), decide (1 ≤ g ∧ g ≤ 4) = false) := Lib.hid (fun h => decide_eq_false h)
  have HT : Hid (1 ≤ g ∧ g ≤ 4 → decide (1 ≤ g ∧ g ≤ 4) = true) := Lib.hid (fun h => decide_eq_true h)
  generalize decide (1 ≤ g ∧ g ≤ 4) = r at *
  by_cases h0 : ¬ (1 ≤ g)
  · obtain rfl : r = false := HB.out (fun h => h0 h.1)
    clear HB HT
    go_enter Try.func55, Try.ntmps55
    go_wp2
    go_ret
    exact ⟨rfl, rfl⟩
  have h0 := Classical.not_not.1 h0
  by_cases h1 : ¬ (g ≤ 4)
  · obtain rfl : r = false := HB.out (fun h => h1 h.2)
    clear HB HT
    go_enter Try.func55, Try.ntmps55
    go_wp2
    go_ret
    exact ⟨rfl, rfl⟩
  have h1 := Classical.not_not.1 h1
  obtain rfl : r = true := HT.out ⟨h0, h1⟩
  clear HB HT
  go_enter Try.func55, Try.ntmps55
  go_wp2
  go_ret
  exact ⟨rfl, rfl⟩

end Go.Proofs.Ytafkoddgefcpnaa

namespace Go.Proofs.Ytafkoddgefcpnaa
open Go.RowKit
set_option linter.unusedVariables false

set_option maxHeartbeats 4000000 in
theorem rof13_up (g sq t n s q lo hi : Int) (hl : In lo) (hh : In hi) (w : World) :
    Calls Try.prog 17 #[.agg #[.int .i64 sq, .int .i64 t, .int .i64 n, .int .i64 s, .int .i64 q, .int .i64 lo, .int .i64 hi], .int .i64 g] w fun e w' => e = .returned (.int .i64 (ofZ g ⟨sq, t, n, s, q, lo, hi⟩)) ∧ Up w w' := by
  by_cases h1 : g = 1
  · subst h1
    rw [show ofZ 1 ⟨sq, t, n, s, q, lo, hi⟩ = n from rfl]
    go_enter Try.func17, Try.ntmps17
    go_wp2
    go_ret
    exact ⟨rfl, (Up.refl w).alloc _ _⟩
  by_cases h2 : g = 2
  · subst h2
    rw [show ofZ 2 ⟨sq, t, n, s, q, lo, hi⟩ = s from rfl]
    clear h1
    go_enter Try.func17, Try.ntmps17
    go_wp2
    go_ret
    exact ⟨rfl, (Up.refl w).alloc _ _⟩
  by_cases h3 : g = 3
  · subst h3
    rw [show ofZ 3 ⟨sq, t, n, s, q, lo, hi⟩ = q from rfl]
    clear h1 h2
    go_enter Try.func17, Try.ntmps17
    go_wp2
    go_ret
    exact ⟨rfl, (Up.refl w).alloc _ _⟩
  by_cases h4 : g = 4
  · subst h4
    rw [ofZ_4]
    have KS := Lib.hid (rsub_any hi lo hh hl)
    have HF : fits (hi - lo) = false → fit (hi - lo) = 0 := fun h => by unfold fit; rw [h]; rfl
    cases hf : fits (hi - lo) with
    | false =>
      have e0 := HF hf
      rw [hf, e0] at KS
      rw [e0]
      clear h1 h2 h3 HF hf e0
      go_enter Try.func17, Try.ntmps17
      go_wp2_with (go_at_call 60; (with_reducible refine (KS.out _).mono ?_); rintro e w' ⟨rfl, rfl⟩)
      go_ret
      exact ⟨rfl, (Up.refl w).alloc _ _⟩
    | true =>
      rw [hf] at KS
      clear HF hf
      generalize fit (hi - lo) = y at *
      clear h1 h2 h3
      go_enter Try.func17, Try.ntmps17
      go_wp2_with (go_at_call 60; (with_reducible refine (KS.out _).mono ?_); rintro e w' ⟨rfl, rfl⟩)
      go_ret
      exact ⟨rfl, (Up.refl w).alloc _ _⟩
  · rw [show ofZ g ⟨sq, t, n, s, q, lo, hi⟩ = 0 by unfold ofZ; rw [if_neg h1, if_neg h2, if_neg h3, if_neg h4]]
    have t1 : (g == 1) = false := beq_eq_false_iff_ne.2 h1
    have t2 : (g == 2) = false := beq_eq_false_iff_ne.2 h2
    have t3 : (g == 3) = false := beq_eq_false_iff_ne.2 h3
    have t4 : (g == 4) = false := beq_eq_false_iff_ne.2 h4
    go_enter Try.func17, Try.ntmps17
    go_wp2
    go_ret
    exact ⟨rfl, (Up.refl w).alloc _ _⟩

end Go.Proofs.Ytafkoddgefcpnaa

namespace Go.Proofs.Ytafkoddgefcpnaa
open Go.RowKit
set_option linter.unusedVariables false

def mostZ (g k c : Int) : Int := if agB g = true ∧ (1 ≤ k ∧ k ≤ 64) ∧ (1 ≤ c ∧ c ≤ 65536) then 2 * k * bitsZ (topG g c) + 2 else 0
end Go.Proofs.Ytafkoddgefcpnaa
