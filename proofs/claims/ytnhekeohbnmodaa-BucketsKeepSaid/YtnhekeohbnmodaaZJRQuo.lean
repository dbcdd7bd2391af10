/- Texts of this claim, one after the other. -/
import Derived.Test.YtnhekeohbnmodaaZHRow
import Derived.Test.YtnhekeohbnmodaaZMath
import Derived.Test.YtnhekeohbnmodaaZRMath
import Derived.Test.YtnhekeohbnmodaaZRValid
import Derived.Test.YtnhekeohbnmodaaZWFormat
import Derived.Test.YtnhekeohbnmodaaZWGcd
import Derived.Test.YtnhekeohbnmodaaZWMath
import Derived.Test.YtnhekeohbnmodaaZWMul
import Derived.Test.YtnhekeohbnmodaaZWide
/- What ratio.quotient and the reference's reduced return. -/
namespace Go.Proofs.Ytnhekeohbnmodaa
open Go.RowKit

/-- A rational number and a bool. -/
def gotR (n d : Int) (b : Bool) : Ending := .returned (.tuple #[.agg #[.int .i64 n, .int .i64 d], .bool b])

theorem quo_out (s t : Bool) (x y : Int) (hx : 0 ≤ x) (hy : 0 < y) :
    gotR (quoN (sz s x) (sz t y)) (quoD (sz s x) (sz t y)) (quoB (sz s x) (sz t y)) =
      if (fits (sz (s != t) (x / gcdZ x y)) && fits (sz false (y / gcdZ x y))) = true then gotR (fit (sz (s != t) (x / gcdZ x y))) (fit (sz false (y / gcdZ x y))) true else gotR 0 0 false := by
  obtain ⟨e1, e2⟩ := quo_parts s t x y hx hy
  have h0 : sz t y ≠ 0 := by cases t <;> simp [sz_true, sz_false] <;> omega
  have e2' : quoQ (sz s x) (sz t y) = sz false (y / gcdZ x y) := e2
  have hB : quoB (sz s x) (sz t y) = (fits (sz (s != t) (x / gcdZ x y)) && fits (sz false (y / gcdZ x y))) := by
    unfold quoB; rw [e1, e2', decide_eq_true h0, Bool.true_and]
  by_cases h : (fits (sz (s != t) (x / gcdZ x y)) && fits (sz false (y / gcdZ x y))) = true
  · rw [if_pos h]
    have hb : quoB (sz s x) (sz t y) = true := hB.trans h
    rw [Bool.and_eq_true] at h
    unfold quoN quoD
    rw [hb, if_pos rfl, if_pos rfl, e1, e2']
    unfold fit
    rw [if_pos h.1, if_pos h.2]
  · rw [if_neg h]
    have hb : quoB (sz s x) (sz t y) = false := hB.trans (by simpa using h)
    rw [(quo_no hb).1, (quo_no hb).2, hb]

theorem rgcd_v (x y : Int) (hx : In2 x) (hy : In2 y) (w : World) :
    Calls Try.prog 86 #[.agg #[.int .u64 (hiZ x), .int .u64 (loZ x)], .agg #[.int .u64 (hiZ y), .int .u64 (loZ y)]] w fun e w' =>
      e = .returned (.agg #[.int .u64 (hiZ (gcdZ x y)), .int .u64 (loZ (gcdZ x y))]) ∧ Up w w' := by
  have h := rgcd_up (hiZ x) (loZ x) (hiZ y) (loZ y) (hiZ_word hx) (loZ_word x) (hiZ_word hy) (loZ_word y) w
  rw [val_hilo, val_hilo] at h
  exact h
theorem gcdZ_fact {x y : Int} (hx : In2 x) (hy : In2 y) (h0 : y ≠ 0) : In2 (gcdZ x y) ∧ gcdZ x y ≠ 0 ∧ In2 (x / gcdZ x y) ∧ In2 (y / gcdZ x y) := by
  obtain ⟨x0, x1⟩ := hx; obtain ⟨y0, y1⟩ := hy
  have hp : 0 < gcdZ x y := by
    unfold gcdZ
    have := Nat.gcd_pos_of_pos_right x.toNat (show 0 < y.toNat by omega)
    omega
  have hl : gcdZ x y ≤ y := by
    unfold gcdZ
    have := Nat.gcd_le_right x.toNat (show 0 < y.toNat by omega)
    omega
  have q1 := Int.ediv_nonneg x0 (Int.le_of_lt hp)
  have q2 := Int.ediv_nonneg y0 (Int.le_of_lt hp)
  have q3 := Int.ediv_le_self (gcdZ x y) x0
  have q4 := Int.ediv_le_self (gcdZ x y) y0
  exact ⟨⟨by omega, by omega⟩, by omega, ⟨q1, by omega⟩, ⟨q2, by omega⟩⟩

theorem own2 {w w' : World} (h : Up w w') (o : Nat) : w'.frozen? ⟨w.heap.size + 1 + 1, o, none⟩ = false := h.own 2 o
theorem own1 {w w' : World} (h : Up w w') (o : Nat) : w'.frozen? ⟨w.heap.size + 1, o, none⟩ = false := h.own 1 o
theorem own0 {w w' : World} (h : Up w w') (o : Nat) : w'.frozen? ⟨w.heap.size, o, none⟩ = false := h.own 0 o

end Go.Proofs.Ytnhekeohbnmodaa

/- What Of, Compare, Floor, Ceil and Make of package ratio, and of its reference, return; the example of the chapter. -/
namespace Go.Proofs.Ytnhekeohbnmodaa
open Go.RowKit

def floR (n d : Int) : Int := if validB n d = true then flos n d else 0
def ceiR (n d : Int) : Int := if validB n d = true then ceis n d else 0
def cmpR (n d m c : Int) : Int := if (validB n d && validB m c) = true then crossZ n c m d else 0

theorem ofr_up (n : Int) (w : World) : Calls Try.prog 51 #[.int .i64 n] w fun e w' => e = .returned (.agg #[.int .i64 n, .int .i64 1]) ∧ Up w w' := by
  go_enter Try.func51, Try.ntmps51
  go_wp2
  refine bodyPost_ret (v := .agg #[.int .i64 n, .int .i64 1]) (by simp [results, Try.results51, go_sem]) rfl ⟨?_, ?_⟩
  · rfl
  · repeat (first | exact Up.refl _ | refine Up.alloc ?_ _ _ | refine Up.setCell ?_ (by first | (simp; done) | (simp; omega) | omega) _ | refine Up.drewN ?_ _ | refine Up.drew ?_)

theorem rofr_up (n : Int) (w : World) : Calls Try.prog 68 #[.int .i64 n] w fun e w' => e = .returned (.agg #[.int .i64 n, .int .i64 1]) ∧ Up w w' := by
  go_enter Try.func68, Try.ntmps68
  go_wp2
  refine bodyPost_ret (v := .agg #[.int .i64 n, .int .i64 1]) (by simp [results, Try.results68, go_sem]) rfl ⟨?_, ?_⟩
  · rfl
  · repeat (first | exact Up.refl _ | refine Up.alloc ?_ _ _ | refine Up.setCell ?_ (by first | (simp; done) | (simp; omega) | omega) _ | refine Up.drewN ?_ _ | refine Up.drew ?_)

theorem comparer_up (n d m c : Int) (hn : In n) (hd : In d) (hm : In m) (hc : In c) (w : World) :
    Calls Try.prog 58 #[.agg #[.int .i64 n, .int .i64 d], .agg #[.int .i64 m, .int .i64 c]] w fun e w' => e = .returned (.int .i64 (cmpR n d m c)) ∧ Up w w' := by
  have HV := Lib.hid (fun W => bothValid_up n d m c hn hd hm hc W)
  have HC := Lib.hid (fun W => cross_up n c m d hn hc hm hd W)
  have HR := Lib.hid (show cmpR n d m c = if (validB n d && validB m c) = true then crossZ n c m d else 0 from rfl)
  generalize cmpR n d m c = r at *
  generalize crossZ n c m d = q at *
  generalize (validB n d && validB m c) = v at *
  clear hn hd hm hc
  cases v
  · go_enter Try.func58, Try.ntmps58
    go_wp2_with fail
    refine (HV.out _).mono ?_
    rintro e w1 ⟨rfl, hu1⟩
    try unfold got2
    have c1_0 := hu1.keep (w.heap.size) (0) (.int .i64 n) (by simp [go_sem, *])
    have c1_1 := hu1.keep (w.heap.size) (1) (.int .i64 d) (by simp [go_sem, *])
    have c1_2 := hu1.keep (w.heap.size + 1) (0) (.int .i64 m) (by simp [go_sem, *])
    have c1_3 := hu1.keep (w.heap.size + 1) (1) (.int .i64 c) (by simp [go_sem, *])
    have l1_0 : w.heap.size < w1.heap.size := World.block_lt_of_cell? _ _ c1_0
    have m1_0 : w.heap.size < w1.heap.size + 1 := by omega
    have n1_0 : w.heap.size < w1.heap.size + 1 + 1 := by omega
    have x1_0 : ¬ w1.heap.size = w.heap.size := by omega
    have y1_0 : ¬ w1.heap.size + 1 = w.heap.size := by omega
    have l1_1 : w.heap.size + 1 < w1.heap.size := World.block_lt_of_cell? _ _ c1_2
    have m1_1 : w.heap.size + 1 < w1.heap.size + 1 := by omega
    have n1_1 : w.heap.size + 1 < w1.heap.size + 1 + 1 := by omega
    have x1_1 : ¬ w1.heap.size = w.heap.size + 1 := by omega
    have y1_1 : ¬ w1.heap.size + 1 = w.heap.size + 1 := by omega
    have HU1 : Hid (Up w w1) := Lib.hid (by ((repeat (first | (with_reducible exact Up.refl _) | (with_reducible refine Up.trans ?_ hu1) | (with_reducible refine Up.alloc ?_ _ _) | (with_reducible refine Up.setCell ?_ ?_ _) | (with_reducible refine Up.drewN ?_ _) | (with_reducible refine Up.drew ?_))); all_goals (first | (simp; done) | (simp; omega) | omega)))
    clear hu1
    go_wp2_with fail
    go_ret
    exact ⟨by rw [HR.out]; rfl, HU1.out⟩
  · go_enter Try.func58, Try.ntmps58
    go_wp2_with fail
    refine (HV.out _).mono ?_
    rintro e w1 ⟨rfl, hu1⟩
    try unfold got2
    have c1_0 := hu1.keep (w.heap.size) (0) (.int .i64 n) (by simp [go_sem, *])
    have c1_1 := hu1.keep (w.heap.size) (1) (.int .i64 d) (by simp [go_sem, *])
    have c1_2 := hu1.keep (w.heap.size + 1) (0) (.int .i64 m) (by simp [go_sem, *])
    have c1_3 := hu1.keep (w.heap.size + 1) (1) (.int .i64 c) (by simp [go_sem, *])
    have l1_0 : w.heap.size < w1.heap.size := World.block_lt_of_cell? _ _ c1_0
    have m1_0 : w.heap.size < w1.heap.size + 1 := by omega
    have n1_0 : w.heap.size < w1.heap.size + 1 + 1 := by omega
    have x1_0 : ¬ w1.heap.size = w.heap.size := by omega
    have y1_0 : ¬ w1.heap.size + 1 = w.heap.size := by omega
    have l1_1 : w.heap.size + 1 < w1.heap.size := World.block_lt_of_cell? _ _ c1_2
    have m1_1 : w.heap.size + 1 < w1.heap.size + 1 := by omega
    have n1_1 : w.heap.size + 1 < w1.heap.size + 1 + 1 := by omega
    have x1_1 : ¬ w1.heap.size = w.heap.size + 1 := by omega
    have y1_1 : ¬ w1.heap.size + 1 = w.heap.size + 1 := by omega
    have HU1 : Hid (Up w w1) := Lib.hid (by ((repeat (first | (with_reducible exact Up.refl _) | (with_reducible refine Up.trans ?_ hu1) | (with_reducible refine Up.alloc ?_ _ _) | (with_reducible refine Up.setCell ?_ ?_ _) | (with_reducible refine Up.drewN ?_ _) | (with_reducible refine Up.drew ?_))); all_goals (first | (simp; done) | (simp; omega) | omega)))
    clear hu1
    go_wp2_with fail
    refine (HC.out _).mono ?_
    rintro e w2 ⟨rfl, hu2⟩
    try unfold got2
    have HU2 : Hid (Up w w2) := Lib.hid (by ((repeat (first | (with_reducible exact Up.refl _) | (with_reducible exact HU1.out) | (with_reducible refine Up.trans ?_ hu2) | (with_reducible refine Up.alloc ?_ _ _) | (with_reducible refine Up.setCell ?_ ?_ _) | (with_reducible refine Up.drewN ?_ _) | (with_reducible refine Up.drew ?_))); all_goals (first | (simp; done) | (simp; omega) | omega)))
    clear hu2 c1_0 c1_1 c1_2 c1_3
    go_wp2_with fail
    go_ret
    exact ⟨by rw [HR.out]; rfl, HU2.out⟩

end Go.Proofs.Ytnhekeohbnmodaa
