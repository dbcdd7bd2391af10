/- What ratio.quotient and the reference's reduced return. -/
import Derived.Test.YtnhekeohbnmodaaZHRow
import Derived.Test.YtnhekeohbnmodaaZMath
import Derived.Test.YtnhekeohbnmodaaZRMath
import Derived.Test.YtnhekeohbnmodaaZRValid
import Derived.Test.YtnhekeohbnmodaaZWFormat
import Derived.Test.YtnhekeohbnmodaaZWGcd
import Derived.Test.YtnhekeohbnmodaaZWMath
import Derived.Test.YtnhekeohbnmodaaZWide
namespace Go.Proofs.Ytnhekeohbnmodaa
open Go.RowKit

/-- A rational number and a bool. -/
def gotR (n d : Int) (b : Bool) : Ending := .returned (.tuple #[.agg #[.int .i64 n, .int .i64 d], .bool b])

theorem quo_out (s t : Bool) (x y : Int) (hx : 0 ≤ x) (hy : 0 < y) :
    gotR (quoN (sz s x) (sz t y)) (quoD (sz s x) (sz t y)) (quoB (sz s x) (sz t y)) =
      if (fits (sz (s != t) (x / gcdZ x y)) && fits (sz false (y / gcdZ x y))) = true then gotR (fit (sz (s != t) (x / gcdZ x y))) (fit (sz false (y / gcdZ x y))) true else gotR 0 0 false := by
  obtain ⟨e1, e2⟩ := quo_parts s t x y hx hy
  have h0 : sz t y ≠ 0 := by cases t <;> simp [sz_true, sz_false] <;> omega
  have e2' : quoQ (sz s x) (sz t y) = sz false (y / gcdZ x y) := e2
  have hB : quoB (sz s x) (sz t y) = (fits (sz (s != t) (x / gcdZ x y)) && fits (sz false (y / gcdZ x y))) := by
    unfold quoB; rw [e1, e2', decide_eq_true h0, Bool.true_and]
  by_cases h : (fits (sz (s != t) (x / gcdZ x y)) && fits (sz false (y / gcdZ x y))) = true
  · rw [if_pos h]
    have hb : quoB (sz s x) (sz t y) = true := hB.trans h
    rw [Bool.and_eq_true] at h
    unfold quoN quoD
    rw [hb, if_pos rfl, if_pos rfl, e1, e2']
    unfold fit
    rw [if_pos h.1, if_pos h.2]
  · rw [if_neg h]
    have hb : quoB (sz s x) (sz t y) = false := hB.trans (by simpa using h)
    rw [(quo_no hb).1, (quo_no hb).2, hb]

theorem rgcd_v (x y : Int) (hx : In2 x) (hy : In2 y) (w : World) :
    Calls Try.prog 86 #[.agg #[.int .u64 (hiZ x), .int .u64 (loZ x)], .agg #[.int .u64 (hiZ y), .int .u64 (loZ y)]] w fun e w' =>
      e = .returned (.agg #[.int .u64 (hiZ (gcdZ x y)), .int .u64 (loZ (gcdZ x y))]) ∧ Up w w' := by
  have h := rgcd_up (hiZ x) (loZ x) (hiZ y) (loZ y) (hiZ_word hx) (loZ_word x) (hiZ_word hy) (loZ_word y) w
  rw [val_hilo, val_hilo] at h
  exact h
theorem gcdZ_fact {x y : Int} (hx : In2 x) (hy : In2 y) (h0 : y ≠ 0) : In2 (gcdZ x y) ∧ gcdZ x y ≠ 0 ∧ In2 (x / gcdZ x y) ∧ In2 (y / gcdZ x y) := by
  obtain ⟨x0, x1⟩ := hx; obtain ⟨y0, y1⟩ := hy
  have hp : 0 < gcdZ x y := by
    unfold gcdZ
    have := Nat.gcd_pos_of_pos_right x.toNat (show 0 < y.toNat by omega)
    omega
  have hl : gcdZ x y ≤ y := by
    unfold gcdZ
    have := Nat.gcd_le_right x.toNat (show 0 < y.toNat by omega)
    omega
  have q1 := Int.ediv_nonneg x0 (Int.le_of_lt hp)
  have q2 := Int.ediv_nonneg y0 (Int.le_of_lt hp)
  have q3 := Int.ediv_le_self (gcdZ x y) x0
  have q4 := Int.ediv_le_self (gcdZ x y) y0
  exact ⟨⟨by omega, by omega⟩, by omega, ⟨q1, by omega⟩, ⟨q2, by omega⟩⟩

theorem own2 {w w' : World} (h : Up w w') (o : Nat) : w'.frozen? ⟨w.heap.size + 1 + 1, o, none⟩ = false := h.own 2 o
theorem own1 {w w' : World} (h : Up w w') (o : Nat) : w'.frozen? ⟨w.heap.size + 1, o, none⟩ = false := h.own 1 o
theorem own0 {w w' : World} (h : Up w w') (o : Nat) : w'.frozen? ⟨w.heap.size, o, none⟩ = false := h.own 0 o

end Go.Proofs.Ytnhekeohbnmodaa
