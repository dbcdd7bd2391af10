/- Texts of these claims, one after the other. -/
import Derived.Test.YtafkoddgefcpnaaRows
import Derived.Test.YtafkoddgefcpnaaZBBdq291
import Derived.Test.YtafkoddgefcpnaaZESqq71
import Derived.Test.YtafkoddgefcpnaaZGBaseq35
import Derived.Test.YtafkoddgefcpnaaZGLawq68
import Derived.Test.YtafkoddgefcpnaaZWAddq17
import Derived.Test.YtafkoddgefcpnaaZWideq9
namespace Go.Proofs.Ytafkoddgefcpnaa
open Go.RowKit

theorem keep12 {w w1 w2 : World} {b0 o0 b1 o1 b2 o2 b3 o3 b4 o4 b5 o5 b6 o6 b7 o7 b8 o8 b9 o9 b10 o10 b11 o11 : Nat} {x0 x1 x2 x3 x4 x5 x6 x7 x8 x9 x10 x11 : Value} (hu : Hid (Up w1 w2)) (h : Up w w1 ∧ w1.cell? ⟨b0, o0, none⟩ = some x0 ∧ w1.cell? ⟨b1, o1, none⟩ = some x1 ∧ w1.cell? ⟨b2, o2, none⟩ = some x2 ∧ w1.cell? ⟨b3, o3, none⟩ = some x3 ∧ w1.cell? ⟨b4, o4, none⟩ = some x4 ∧ w1.cell? ⟨b5, o5, none⟩ = some x5 ∧ w1.cell? ⟨b6, o6, none⟩ = some x6 ∧ w1.cell? ⟨b7, o7, none⟩ = some x7 ∧ w1.cell? ⟨b8, o8, none⟩ = some x8 ∧ w1.cell? ⟨b9, o9, none⟩ = some x9 ∧ w1.cell? ⟨b10, o10, none⟩ = some x10 ∧ w1.cell? ⟨b11, o11, none⟩ = some x11) : Up w w2 ∧ w2.cell? ⟨b0, o0, none⟩ = some x0 ∧ w2.cell? ⟨b1, o1, none⟩ = some x1 ∧ w2.cell? ⟨b2, o2, none⟩ = some x2 ∧ w2.cell? ⟨b3, o3, none⟩ = some x3 ∧ w2.cell? ⟨b4, o4, none⟩ = some x4 ∧ w2.cell? ⟨b5, o5, none⟩ = some x5 ∧ w2.cell? ⟨b6, o6, none⟩ = some x6 ∧ w2.cell? ⟨b7, o7, none⟩ = some x7 ∧ w2.cell? ⟨b8, o8, none⟩ = some x8 ∧ w2.cell? ⟨b9, o9, none⟩ = some x9 ∧ w2.cell? ⟨b10, o10, none⟩ = some x10 ∧ w2.cell? ⟨b11, o11, none⟩ = some x11 :=
  ⟨h.1.trans hu.out, hu.out.keep _ _ _ h.2.1, hu.out.keep _ _ _ h.2.2.1, hu.out.keep _ _ _ h.2.2.2.1, hu.out.keep _ _ _ h.2.2.2.2.1, hu.out.keep _ _ _ h.2.2.2.2.2.1, hu.out.keep _ _ _ h.2.2.2.2.2.2.1, hu.out.keep _ _ _ h.2.2.2.2.2.2.2.1, hu.out.keep _ _ _ h.2.2.2.2.2.2.2.2.1, hu.out.keep _ _ _ h.2.2.2.2.2.2.2.2.2.1, hu.out.keep _ _ _ h.2.2.2.2.2.2.2.2.2.2.1, hu.out.keep _ _ _ h.2.2.2.2.2.2.2.2.2.2.2.1, hu.out.keep _ _ _ h.2.2.2.2.2.2.2.2.2.2.2.2⟩
end Go.Proofs.Ytafkoddgefcpnaa

namespace Go.Proofs.Ytafkoddgefcpnaa
open Go.RowKit

theorem take_next {L : List It} {i : Nat} (hi : i < L.length) : L.take (i + 1) = L.take i ++ [L.getD i (0, 0)] := by rw [List.take_add_one]; simp [List.getD, hi]
end Go.Proofs.Ytafkoddgefcpnaa

namespace Go.Proofs.Ytafkoddgefcpnaa

theorem ag_top {g c : Int} {A : List Int} (hg : 1 ≤ g ∧ g ≤ 4) (h : ∀ x ∈ A, valG g x) (hc : (A.length : Int) ≤ c) : agZ g A ≤ topG g c := by
  have : g = 1 ∨ g = 2 ∨ g = 3 ∨ g = 4 := by omega
  rcases this with rfl | rfl | rfl | rfl
  · exact hc
  · have h1 := suL_le (A := A) (b := 4096) (fun x hx => (h x hx).2.1)
    show suL A ≤ c * 4096
    omega
  · have h1 := sqL_le (A := A) (m := 4096) (fun x hx => ⟨(h x hx).1, (h x hx).2.1⟩)
    show sqL A ≤ c * 4096 * 4096
    omega
  · show mxL A - mnL A ≤ 8192
    by_cases hA : A = []
    · subst hA; simp [mxL, mnL]
    · have h1 := h _ (mnL_mem hA)
      have h2 := h _ (mxL_mem hA)
      have := h1.1; have := h2.2.1; omega
end Go.Proofs.Ytafkoddgefcpnaa

namespace Go.Proofs.Ytafkoddgefcpnaa
open Go.RowKit

/-- The least and the greatest value so far, from x on. -/
def leZ (x : Int) (L : List It) : Int := L.foldl (fun a y => min a y.2) x
def grZ (x : Int) (L : List It) : Int := L.foldl (fun a y => max a y.2) x
theorem leZ_take {L : List It} {i : Nat} (hi : i < L.length) (x : Int) : leZ x (L.take (i + 1)) = min (leZ x (L.take i)) (L.getD i (0, 0)).2 := by
  unfold leZ; rw [take_next hi, List.foldl_append]; rfl
theorem grZ_take {L : List It} {i : Nat} (hi : i < L.length) (x : Int) : grZ x (L.take (i + 1)) = max (grZ x (L.take i)) (L.getD i (0, 0)).2 := by
  unfold grZ; rw [take_next hi, List.foldl_append]; rfl
/-- What Least and Greatest return. -/
def leE (L : List It) : Ending := if L = [] then got 0 false else got (leZ (L.getD 0 (0, 0)).2 L) true
def grE (L : List It) : Ending := if L = [] then got 0 false else got (grZ (L.getD 0 (0, 0)).2 L) true

set_option maxHeartbeats 4000000 in
theorem rleast_up (n k : Nat) (A : Option Addr) (L : List It) (hn : n ≤ 1000000) (w : World) (hS : Sl w A n L) :
    Calls Try.prog 81 #[.slice A n k, .bool false] w fun e w' => e = leE L ∧ Up w w' := by
  by_cases h0 : n = 0
  · subst h0
    have : L = [] := List.length_eq_zero_iff.1 hS.1
    unfold leE
    rw [if_pos this]
    clear hS this
    go_enter Try.func81, Try.ntmps81
    go_wp2_with fail
    go_ret2
    exact ⟨rfl, Up.refl _⟩
  have e : leE L = got (leZ (L.getD 0 (0, 0)).2 L) true := by unfold leE; rw [if_neg (fun h => h0 (by rw [← hS.1, h]; rfl))]
  rw [e]
  clear e
  obtain ⟨b, o, rfl, d0, d1⟩ := hS.at_ (show 0 < n by omega)
  have HL := Lib.hid hS.1
  have HS := Lib.hid hS
  have t0 : ((n : Int) == 0) = false := by simp; omega
  have t1 : (0 : Int) < n := by omega
  generalize (L.getD 0 (0, 0)).2 = x at *
  generalize (L.getD 0 (0, 0)).1 = x' at *
  simp only [Nat.zero_mul, Nat.add_zero] at d0 d1
  clear hS
  generalize hr : leZ x L = r
  have HR := Lib.hid hr
  clear hr h0
  go_enter Try.func81, Try.ntmps81
  go_wp2_with fail
  go_loopw [6, 18] (fun s t wr => ∃ (i : Nat) (c : Int), s = .int .i64 c ∧ t = .int .i64 i ∧ i ≤ n ∧ Hid (c = leZ x (L.take i)) ∧ Up w wr) (fun _ t _ => n - (intOf t).toNat)
  case atStart => exact ⟨0, x, rfl, rfl, Nat.zero_le _, Lib.hid (by simp [leZ]), Up.refl _⟩
  case round =>
    obtain ⟨i, c, rfl, rfl, hin, HN, hU⟩ := hrel
    have HU := Lib.hid hU
    clear hU
    by_cases hi : i < n
    · obtain ⟨b2, o2, hbo, d2, d3⟩ := (HS.out.up HU.out).at_ hi
      cases hbo
      have HN1 := Lib.hid (leZ_take (L := L) (i := i) (by rw [HL.out]; exact hi) x)
      generalize (L.getD i (0, 0)).1 = p0 at *
      generalize (L.getD i (0, 0)).2 = p1 at *
      have f2 : (i : Int) < n := by omega
      have f3 : (0 : Int) ≤ i := by omega
      clear d0 d1
      by_cases hx : p1 < c
      · have HM : Hid (p1 = leZ x (L.take (i + 1))) := Lib.hid (by rw [HN1.out, ← HN.out]; omega)
        clear HN1 HN
        go_wp2_with fail
        go_roundw
        case rel => exact ⟨i + 1, p1, rfl, by go_num, by omega, HM, HU.out.alloc _ _⟩
        case measure => simp [intOf]; omega
      · have HM : Hid (c = leZ x (L.take (i + 1))) := Lib.hid (by rw [HN1.out, ← HN.out]; omega)
        clear HN1 HN
        go_wp2_with fail
        go_roundw
        case rel => exact ⟨i + 1, c, rfl, by go_num, by omega, HM, HU.out.alloc _ _⟩
        case measure => simp [intOf]; omega
    · obtain rfl : i = n := by omega
      obtain rfl : r = c := by rw [← HR.out, HN.out, List.take_of_length_le (by rw [HL.out]; exact Nat.le_refl _)]
      clear HR
      go_wp2_with fail
      go_ret2
      exact ⟨rfl, HU.out⟩
set_option maxHeartbeats 4000000 in
theorem rgreatest_up (n k : Nat) (A : Option Addr) (L : List It) (hn : n ≤ 1000000) (w : World) (hS : Sl w A n L) :
    Calls Try.prog 81 #[.slice A n k, .bool true] w fun e w' => e = grE L ∧ Up w w' := by
  by_cases h0 : n = 0
  · subst h0
    have : L = [] := List.length_eq_zero_iff.1 hS.1
    unfold grE
    rw [if_pos this]
    clear hS this
    go_enter Try.func81, Try.ntmps81
    go_wp2_with fail
    go_ret2
    exact ⟨rfl, Up.refl _⟩
  have e : grE L = got (grZ (L.getD 0 (0, 0)).2 L) true := by unfold grE; rw [if_neg (fun h => h0 (by rw [← hS.1, h]; rfl))]
  rw [e]
  clear e
  obtain ⟨b, o, rfl, d0, d1⟩ := hS.at_ (show 0 < n by omega)
  have HL := Lib.hid hS.1
  have HS := Lib.hid hS
  have t0 : ((n : Int) == 0) = false := by simp; omega
  have t1 : (0 : Int) < n := by omega
  generalize (L.getD 0 (0, 0)).2 = x at *
  generalize (L.getD 0 (0, 0)).1 = x' at *
  simp only [Nat.zero_mul, Nat.add_zero] at d0 d1
  clear hS
  generalize hr : grZ x L = r
  have HR := Lib.hid hr
  clear hr h0
  go_enter Try.func81, Try.ntmps81
  go_wp2_with fail
  go_loopw [6, 18] (fun s t wr => ∃ (i : Nat) (c : Int), s = .int .i64 c ∧ t = .int .i64 i ∧ i ≤ n ∧ Hid (c = grZ x (L.take i)) ∧ Up w wr) (fun _ t _ => n - (intOf t).toNat)
  case atStart => exact ⟨0, x, rfl, rfl, Nat.zero_le _, Lib.hid (by simp [grZ]), Up.refl _⟩
  case round =>
    obtain ⟨i, c, rfl, rfl, hin, HN, hU⟩ := hrel
    have HU := Lib.hid hU
    clear hU
    by_cases hi : i < n
    · obtain ⟨b2, o2, hbo, d2, d3⟩ := (HS.out.up HU.out).at_ hi
      cases hbo
      have HN1 := Lib.hid (grZ_take (L := L) (i := i) (by rw [HL.out]; exact hi) x)
      generalize (L.getD i (0, 0)).1 = p0 at *
      generalize (L.getD i (0, 0)).2 = p1 at *
      have f2 : (i : Int) < n := by omega
      have f3 : (0 : Int) ≤ i := by omega
      clear d0 d1
      by_cases hx : c < p1
      · have HM : Hid (p1 = grZ x (L.take (i + 1))) := Lib.hid (by rw [HN1.out, ← HN.out]; omega)
        clear HN1 HN
        go_wp2_with fail
        go_roundw
        case rel => exact ⟨i + 1, p1, rfl, by go_num, by omega, HM, HU.out.alloc _ _⟩
        case measure => simp [intOf]; omega
      · have HM : Hid (c = grZ x (L.take (i + 1))) := Lib.hid (by rw [HN1.out, ← HN.out]; omega)
        clear HN1 HN
        go_wp2_with fail
        go_roundw
        case rel => exact ⟨i + 1, c, rfl, by go_num, by omega, HM, HU.out.alloc _ _⟩
        case measure => simp [intOf]; omega
    · obtain rfl : i = n := by omega
      obtain rfl : r = c := by rw [← HR.out, HN.out, List.take_of_length_le (by rw [HL.out]; exact Nat.le_refl _)]
      clear HR
      go_wp2_with fail
      go_ret2
      exact ⟨rfl, HU.out⟩
end Go.Proofs.Ytafkoddgefcpnaa

namespace Go.Proofs.Ytafkoddgefcpnaa
open Go.RowKit

theorem Bd.far {w w1 : World} {m g q : Nat} {v : Value} {L : List (Nat × Nat × Value)} (h : Bd w m L w1) (hg : w.heap.size + m < g) : Bd w m L (w1.setCell ⟨g, q, none⟩ v) :=
  ⟨h.up.setCell (by show w.heap.size ≤ g; omega) _, fun x hx => (cell_far (by have := h.lt x hx; show g ≠ x.1; omega)).trans (h.kp x hx), h.lt⟩
theorem bkeep2 {w w1 w2 : World} {m : Nat} {L : List (Nat × Nat × Value)} {b0 o0 b1 o1 : Nat} {x0 x1 : Value} (hu : Hid (Up w1 w2)) (h : Bd w m L w1 ∧ w1.cell? ⟨b0, o0, none⟩ = some x0 ∧ w1.cell? ⟨b1, o1, none⟩ = some x1) : Bd w m L w2 ∧ w2.cell? ⟨b0, o0, none⟩ = some x0 ∧ w2.cell? ⟨b1, o1, none⟩ = some x1 :=
  ⟨h.1.keep hu.out, hu.out.keep _ _ _ h.2.1, hu.out.keep _ _ _ h.2.2⟩
theorem bset2 {w w1 : World} {m : Nat} {L : List (Nat × Nat × Value)} {b0 o0 b1 o1 : Nat} {x0 x1 : Value} {g q : Nat} {v : Value} (h : Bd w m L w1 ∧ w1.cell? ⟨b0, o0, none⟩ = some x0 ∧ w1.cell? ⟨b1, o1, none⟩ = some x1) (hg : w.heap.size + m < g) (n0 : g ≠ b0) (n1 : g ≠ b1) : Bd w m L (w1.setCell ⟨g, q, none⟩ v) ∧ (w1.setCell ⟨g, q, none⟩ v).cell? ⟨b0, o0, none⟩ = some x0 ∧ (w1.setCell ⟨g, q, none⟩ v).cell? ⟨b1, o1, none⟩ = some x1 :=
  ⟨h.1.far hg, (cell_far n0).trans h.2.1, (cell_far n1).trans h.2.2⟩
end Go.Proofs.Ytafkoddgefcpnaa
