/- Texts of these claims, one after the other. -/
import Derived.Test.YtinjainclhfahaaRows
import Derived.Test.YtinjainclhfahaaZGStepq95
import Derived.Test.YtinjainclhfahaaZKRowq59
namespace Go.Proofs.Ytinjainclhfahaa
open Go.RowKit
set_option linter.unusedVariables false

/-- A row in a new block, with its room. -/
def NwK (w : World) (A : Option Addr) (n k : Nat) : Prop := n ≤ k ∧ Nw w A
/-- Results: a state and an error. -/
abbrev Q5 := Int × Int × Int × List Int × Int
def Rs (q : Q5) (w : World) (e : Ending) (w' : World) : Prop := ∃ (A : Option Addr) (k : Nat), e = .returned (.tuple #[.agg #[.int .i64 q.1, .int .i64 q.2.1, .int .i64 q.2.2.1, .slice A q.2.2.2.1.length k], .int .i64 q.2.2.2.2]) ∧ NwK w A q.2.2.2.1.length k ∧ SG cW w' A q.2.2.2.1.length q.2.2.2.1 ∧ Up w w'
/-- The same, where the row may be an older one. -/
def RsO (q : Q5) (w : World) (e : Ending) (w' : World) : Prop := ∃ (A : Option Addr) (k : Nat), e = .returned (.tuple #[.agg #[.int .i64 q.1, .int .i64 q.2.1, .int .i64 q.2.2.1, .slice A q.2.2.2.1.length k], .int .i64 q.2.2.2.2]) ∧ SG cW w' A q.2.2.2.1.length q.2.2.2.1 ∧ Up w w'
def noQ (e : Int) : Q5 := (0, 0, 0, [], e)
theorem Rs.no {e : Int} {w w' : World} {v : Ending} (h : v = .returned (.tuple #[.agg #[.int .i64 0, .int .i64 0, .int .i64 0, .slice none 0 0], .int .i64 e])) (hu : Up w w') : Rs (noQ e) w v w' := ⟨none, 0, h, ⟨Nat.le_refl _, fun _ _ q => (by cases q)⟩, SG.none_, hu⟩
theorem RsO.yes {p l c e : Int} {X : List Int} {A : Option Addr} {n k : Nat} {w w' : World} {v : Ending} (h : v = .returned (.tuple #[.agg #[.int .i64 p, .int .i64 l, .int .i64 c, .slice A n k], .int .i64 e])) (hS : SG cW w' A n X) (hu : Up w w') : RsO (p, l, c, X, e) w v w' := by
  obtain rfl : X.length = n := hS.1
  exact ⟨A, k, h, hS, hu⟩
theorem Rs.yes {p l c e : Int} {X : List Int} {A : Option Addr} {n k : Nat} {w w' : World} {v : Ending} (h : v = .returned (.tuple #[.agg #[.int .i64 p, .int .i64 l, .int .i64 c, .slice A n k], .int .i64 e])) (hN : NwK w A n k) (hS : SG cW w' A n X) (hu : Up w w') : Rs (p, l, c, X, e) w v w' := by
  obtain rfl : X.length = n := hS.1
  exact ⟨A, k, h, hN, hS, hu⟩
theorem Rs.of {p l c e : Int} {X : List Int} {w w' : World} {v : Ending} (h : Rs (p, l, c, X, e) w v w') : ∃ (A : Option Addr) (k : Nat), v = .returned (.tuple #[.agg #[.int .i64 p, .int .i64 l, .int .i64 c, .slice A X.length k], .int .i64 e]) ∧ NwK w A X.length k ∧ SG cW w' A X.length X ∧ Up w w' := h
def stQE (p l c : Int) (X : List Int) : Int := if stP p l c X = true then 0 else 2
def nwQ (p t : Int) : Q5 := if (0 ≤ p ∧ p ≤ 4) ∧ (0 ≤ t ∧ t ≤ 16777216) then (p, t, t, List.replicate (p + 1).toNat 0, 0) else noQ 1
def advQ (p l c : Int) (X : List Int) (t : Int) : Q5 := if stP p l c X = true then (if t < c ∨ 16777216 < t then noQ 3 else (p, l, t, X, 0)) else noQ 2
def addQ (p l c : Int) (X : List Int) (v : Int) : Q5 := if stP p l c X = true then (if v < 0 ∨ 4096 < v then noQ 4 else if fitL (adP (c - l + 1) v X) = true then (p, l, c, adP (c - l + 1) v X, 0) else noQ 6) else noQ 2
theorem isPower15_any (p : Int) (w : World) :
    Calls Try.prog 31 #[.int .i64 p] w fun e w' => e = .returned (.bool (decide (0 ≤ p ∧ p ≤ 4))) ∧ w = w' := by
  by_cases h : 0 ≤ p
  · by_cases k : p ≤ 4
    · rw [show decide (0 ≤ p ∧ p ≤ 4) = true from decide_eq_true ⟨h, k⟩]
      go_enter Try.func31, Try.ntmps31
      go_wp2
      go_ret
      exact ⟨rfl, rfl⟩
    · rw [show decide (0 ≤ p ∧ p ≤ 4) = false from decide_eq_false (fun g => k g.2)]
      go_enter Try.func31, Try.ntmps31
      go_wp2
      go_ret
      exact ⟨rfl, rfl⟩
  · rw [show decide (0 ≤ p ∧ p ≤ 4) = false from decide_eq_false (fun g => h g.1)]
    go_enter Try.func31, Try.ntmps31
    go_wp2
    go_ret
    exact ⟨rfl, rfl⟩
theorem isTick15_any (p : Int) (w : World) :
    Calls Try.prog 32 #[.int .i64 p] w fun e w' => e = .returned (.bool (decide (0 ≤ p ∧ p ≤ 16777216))) ∧ w = w' := by
  by_cases h : 0 ≤ p
  · by_cases k : p ≤ 16777216
    · rw [show decide (0 ≤ p ∧ p ≤ 16777216) = true from decide_eq_true ⟨h, k⟩]
      go_enter Try.func32, Try.ntmps32
      go_wp2
      go_ret
      exact ⟨rfl, rfl⟩
    · rw [show decide (0 ≤ p ∧ p ≤ 16777216) = false from decide_eq_false (fun g => k g.2)]
      go_enter Try.func32, Try.ntmps32
      go_wp2
      go_ret
      exact ⟨rfl, rfl⟩
  · rw [show decide (0 ≤ p ∧ p ≤ 16777216) = false from decide_eq_false (fun g => h g.1)]
    go_enter Try.func32, Try.ntmps32
    go_wp2
    go_ret
    exact ⟨rfl, rfl⟩
theorem gage_up (p l c : Int) (n k : Nat) (A : Option Addr) (h0 : 0 ≤ l) (h1 : l ≤ c) (h2 : c ≤ 16777216) (w : World) :
    Calls Try.prog 40 #[.agg #[.int .i64 p, .int .i64 l, .int .i64 c, .slice A n k]] w fun e w' => e = .returned (.int .u64 (c - l + 1)) ∧ Up w w' := by
  have k1 : IntKind.i64.wrap (c - l) = c - l := IntWalk.i64_in _ (by omega)
  have k2 : IntKind.i64.wrap (c - l + 1) = c - l + 1 := IntWalk.i64_in _ (by omega)
  have k3 : IntKind.u64.wrap (c - l + 1) = c - l + 1 := by rw [IntKind.wrap_u64]; omega
  go_enter Try.func40, Try.ntmps40
  go_wp2_with fail
  go_ret
  exact ⟨rfl, (Up.refl w).alloc _ _⟩
set_option maxHeartbeats 4000000 in
set_option maxRecDepth 100000 in
theorem holding_up (p l c t : Int) (n k m j : Nat) (A B : Option Addr) (r : Bool) (w : World) :
    Calls Try.prog 41 #[.agg #[.int .i64 p, .int .i64 l, .int .i64 c, .slice A n k], .int .i64 t, .slice B m j, .bool r] w fun e w' => e = .returned (if r = true then .tuple #[.agg #[.int .i64 p, .int .i64 t, .int .i64 c, .slice B m j], .int .i64 0] else .tuple #[.agg #[.int .i64 0, .int .i64 0, .int .i64 0, .slice none 0 0], .int .i64 6]) ∧ Up w w' := by
  cases r
  · go_enter Try.func41, Try.ntmps41
    go_wp2_with fail
    refine bodyPost_ret (v := .tuple #[.agg #[.int .i64 0, .int .i64 0, .int .i64 0, .slice none 0 0], .int .i64 6]) (by simp [results, Try.results41, go_sem]) rfl ⟨?_, ?_⟩
    · rfl
    · repeat (first | exact Up.refl _ | refine Up.alloc ?_ _ _ | refine Up.setCell ?_ (by first | (simp; done) | (simp; omega) | omega) _ | refine Up.drewN ?_ _ | refine Up.drew ?_)
  · go_enter Try.func41, Try.ntmps41
    go_wp2_with fail
    refine bodyPost_ret (v := .tuple #[.agg #[.int .i64 p, .int .i64 t, .int .i64 c, .slice B m j], .int .i64 0]) (by simp [results, Try.results41, go_sem]) rfl ⟨?_, ?_⟩
    · rfl
    · repeat (first | exact Up.refl _ | refine Up.alloc ?_ _ _ | refine Up.setCell ?_ (by first | (simp; done) | (simp; omega) | omega) _ | refine Up.drewN ?_ _ | refine Up.drew ?_)
set_option maxHeartbeats 4000000 in
set_option maxRecDepth 100000 in
theorem new15_up (p t : Int) (w : World) :
    Calls Try.prog 9 #[.int .i64 p, .int .i64 t] w fun e w' => Rs (nwQ p t) w e w' := by
  have KP := Lib.hid (isPower15_any p)
  have KT := Lib.hid (isTick15_any t)
  unfold nwQ
  by_cases hp : 0 ≤ p ∧ p ≤ 4
  case neg =>
    rw [if_neg (fun h => hp h.1)]
    rw [decide_eq_false hp] at KP
    clear hp
    go_enter Try.func9, Try.ntmps9
    go_wp2_with (first  | (go_at_call 31; (with_reducible refine (KP.out _).mono ?_); rintro e w' ⟨rfl, rfl⟩)  | (go_at_call 32; (with_reducible refine (KT.out _).mono ?_); rintro e w' ⟨rfl, rfl⟩))
    refine bodyPost_ret (v := .tuple #[.agg #[.int .i64 0, .int .i64 0, .int .i64 0, .slice none 0 0], .int .i64 1]) (by simp [results, Try.results9, go_sem]) rfl (Rs.no rfl ?_)
    repeat (first | exact Up.refl _ | refine Up.alloc ?_ _ _ | refine Up.setCell ?_ (by first | (simp; done) | (simp; omega) | omega) _ | refine Up.drewN ?_ _ | refine Up.drew ?_)
  by_cases ht : 0 ≤ t ∧ t ≤ 16777216
  case neg =>
    rw [if_neg (fun h => ht h.2)]
    rw [show decide (0 ≤ t ∧ t ≤ 16777216) = false from decide_eq_false ht] at KT
    obtain ⟨h0, h1⟩ := hp
    clear ht
    rw [decide_eq_true (⟨h0, h1⟩ : 0 ≤ p ∧ p ≤ 4)] at KP
    go_enter Try.func9, Try.ntmps9
    go_wp2_with (first  | (go_at_call 31; (with_reducible refine (KP.out _).mono ?_); rintro e w' ⟨rfl, rfl⟩)  | (go_at_call 32; (with_reducible refine (KT.out _).mono ?_); rintro e w' ⟨rfl, rfl⟩))
    refine bodyPost_ret (v := .tuple #[.agg #[.int .i64 0, .int .i64 0, .int .i64 0, .slice none 0 0], .int .i64 1]) (by simp [results, Try.results9, go_sem]) rfl (Rs.no rfl ?_)
    repeat (first | exact Up.refl _ | refine Up.alloc ?_ _ _ | refine Up.setCell ?_ (by first | (simp; done) | (simp; omega) | omega) _ | refine Up.drewN ?_ _ | refine Up.drew ?_)
  rw [if_pos ⟨hp, ht⟩]
  rw [show decide (0 ≤ t ∧ t ≤ 16777216) = true from decide_eq_true ht] at KT
  rw [decide_eq_true hp] at KP
  obtain ⟨m, rfl⟩ : ∃ m : Nat, p = m := ⟨p.toNat, by omega⟩
  rw [show ((m : Int) + 1).toNat = m + 1 by omega]
  obtain ⟨h0, h1⟩ := hp
  have hm : m ≤ 4 := by omega
  have kp : IntKind.i64.wrap ((m : Int) + 1) = ((m + 1 : Nat) : Int) := by rw [IntKind.wrap_i64]; omega
  have mk := fun W => makeW_run (m + 1) (by omega) W
  generalize m + 1 = N at *
  clear ht
  go_enter Try.func9, Try.ntmps9
  go_wp2_with (first  | (go_at_call 31; (with_reducible refine (KP.out _).mono ?_); rintro e w' ⟨rfl, rfl⟩)  | (go_at_call 32; (with_reducible refine (KT.out _).mono ?_); rintro e w' ⟨rfl, rfl⟩))
  refine bodyPost_ret (v := .tuple #[.agg #[.int .i64 m, .int .i64 t, .int .i64 t, .slice (some ⟨w.heap.size + 1, 0, none⟩) N N], .int .i64 0]) (by simp [results, Try.results9, go_sem]; try rfl) rfl (Rs.yes rfl ?_ ?_ ?_)
  · exact ⟨Nat.le_refl _, fun b o e => by injection e with e; injection e with e; omega⟩
  · have := fun c => madeW_row (w.alloc c) N
    simp only [size_alloc] at this
    exact this _
  · repeat (first | exact Up.refl _ | refine Up.alloc ?_ _ _ | refine Up.setCell ?_ (by first | (simp; done) | (simp; omega) | omega) _ | refine Up.drewN ?_ _ | refine Up.drew ?_)
end Go.Proofs.Ytinjainclhfahaa

namespace Go.Proofs.Ytinjainclhfahaa
open Go.RowKit
set_option linter.unusedVariables false

theorem Rs.t {q : Q5} {w w' : World} {e : Ending} (h : Rs q w e w') : RsO q w e w' := by obtain ⟨A, k, h1, _, h2, h3⟩ := h; exact ⟨A, k, h1, h2, h3⟩
end Go.Proofs.Ytinjainclhfahaa

namespace Go.Proofs.Ytinjainclhfahaa
open Go.RowKit
set_option linter.unusedVariables false

def rebQ (p l c : Int) (X : List Int) (t : Int) : Q5 := if stP p l c X = true then (if t < 0 ∨ l < t then noQ 1 else if fitL (reP (l - t) X) = true then (p, t, c, reP (l - t) X, 0) else noQ 6) else noQ 2
end Go.Proofs.Ytinjainclhfahaa

namespace Go.Proofs.Ytinjainclhfahaa
open Go.RowKit
set_option linter.unusedVariables false

theorem KB1.base {b0 : Nat} {w W : World} (h : Hid (Up w W)) (h0 : b0 < W.heap.size := by first | assumption | omega | (simp [go_sem]; done) | (simp [go_sem]; omega)) : KB1 b0 w W W := ⟨h.out, h0, fun _ => rfl⟩
theorem KB2.base {b0 b1 : Nat} {w W : World} (h : Hid (Up w W)) (h0 : b0 < W.heap.size := by first | assumption | omega | (simp [go_sem]; done) | (simp [go_sem]; omega)) (h1 : b1 < W.heap.size := by first | assumption | omega | (simp [go_sem]; done) | (simp [go_sem]; omega)) : KB2 b0 b1 w W W := ⟨h.out, ⟨h0, h1⟩, fun _ => rfl, fun _ => rfl⟩
theorem KB3.base {b0 b1 b2 : Nat} {w W : World} (h : Hid (Up w W)) (h0 : b0 < W.heap.size := by first | assumption | omega | (simp [go_sem]; done) | (simp [go_sem]; omega)) (h1 : b1 < W.heap.size := by first | assumption | omega | (simp [go_sem]; done) | (simp [go_sem]; omega)) (h2 : b2 < W.heap.size := by first | assumption | omega | (simp [go_sem]; done) | (simp [go_sem]; omega)) : KB3 b0 b1 b2 w W W := ⟨h.out, ⟨h0, h1, h2⟩, fun _ => rfl, fun _ => rfl, fun _ => rfl⟩
theorem KB4.base {b0 b1 b2 b3 : Nat} {w W : World} (h : Hid (Up w W)) (h0 : b0 < W.heap.size := by first | assumption | omega | (simp [go_sem]; done) | (simp [go_sem]; omega)) (h1 : b1 < W.heap.size := by first | assumption | omega | (simp [go_sem]; done) | (simp [go_sem]; omega)) (h2 : b2 < W.heap.size := by first | assumption | omega | (simp [go_sem]; done) | (simp [go_sem]; omega)) (h3 : b3 < W.heap.size := by first | assumption | omega | (simp [go_sem]; done) | (simp [go_sem]; omega)) : KB4 b0 b1 b2 b3 w W W := ⟨h.out, ⟨h0, h1, h2, h3⟩, fun _ => rfl, fun _ => rfl, fun _ => rfl, fun _ => rfl⟩
theorem KB5.base {b0 b1 b2 b3 b4 : Nat} {w W : World} (h : Hid (Up w W)) (h0 : b0 < W.heap.size := by first | assumption | omega | (simp [go_sem]; done) | (simp [go_sem]; omega)) (h1 : b1 < W.heap.size := by first | assumption | omega | (simp [go_sem]; done) | (simp [go_sem]; omega)) (h2 : b2 < W.heap.size := by first | assumption | omega | (simp [go_sem]; done) | (simp [go_sem]; omega)) (h3 : b3 < W.heap.size := by first | assumption | omega | (simp [go_sem]; done) | (simp [go_sem]; omega)) (h4 : b4 < W.heap.size := by first | assumption | omega | (simp [go_sem]; done) | (simp [go_sem]; omega)) : KB5 b0 b1 b2 b3 b4 w W W := ⟨h.out, ⟨h0, h1, h2, h3, h4⟩, fun _ => rfl, fun _ => rfl, fun _ => rfl, fun _ => rfl, fun _ => rfl⟩
theorem KB6.base {b0 b1 b2 b3 b4 b5 : Nat} {w W : World} (h : Hid (Up w W)) (h0 : b0 < W.heap.size := by first | assumption | omega | (simp [go_sem]; done) | (simp [go_sem]; omega)) (h1 : b1 < W.heap.size := by first | assumption | omega | (simp [go_sem]; done) | (simp [go_sem]; omega)) (h2 : b2 < W.heap.size := by first | assumption | omega | (simp [go_sem]; done) | (simp [go_sem]; omega)) (h3 : b3 < W.heap.size := by first | assumption | omega | (simp [go_sem]; done) | (simp [go_sem]; omega)) (h4 : b4 < W.heap.size := by first | assumption | omega | (simp [go_sem]; done) | (simp [go_sem]; omega)) (h5 : b5 < W.heap.size := by first | assumption | omega | (simp [go_sem]; done) | (simp [go_sem]; omega)) : KB6 b0 b1 b2 b3 b4 b5 w W W := ⟨h.out, ⟨h0, h1, h2, h3, h4, h5⟩, fun _ => rfl, fun _ => rfl, fun _ => rfl, fun _ => rfl, fun _ => rfl, fun _ => rfl⟩
theorem KB7.base {b0 b1 b2 b3 b4 b5 b6 : Nat} {w W : World} (h : Hid (Up w W)) (h0 : b0 < W.heap.size := by first | assumption | omega | (simp [go_sem]; done) | (simp [go_sem]; omega)) (h1 : b1 < W.heap.size := by first | assumption | omega | (simp [go_sem]; done) | (simp [go_sem]; omega)) (h2 : b2 < W.heap.size := by first | assumption | omega | (simp [go_sem]; done) | (simp [go_sem]; omega)) (h3 : b3 < W.heap.size := by first | assumption | omega | (simp [go_sem]; done) | (simp [go_sem]; omega)) (h4 : b4 < W.heap.size := by first | assumption | omega | (simp [go_sem]; done) | (simp [go_sem]; omega)) (h5 : b5 < W.heap.size := by first | assumption | omega | (simp [go_sem]; done) | (simp [go_sem]; omega)) (h6 : b6 < W.heap.size := by first | assumption | omega | (simp [go_sem]; done) | (simp [go_sem]; omega)) : KB7 b0 b1 b2 b3 b4 b5 b6 w W W := ⟨h.out, ⟨h0, h1, h2, h3, h4, h5, h6⟩, fun _ => rfl, fun _ => rfl, fun _ => rfl, fun _ => rfl, fun _ => rfl, fun _ => rfl, fun _ => rfl⟩
theorem KB8.base {b0 b1 b2 b3 b4 b5 b6 b7 : Nat} {w W : World} (h : Hid (Up w W)) (h0 : b0 < W.heap.size := by first | assumption | omega | (simp [go_sem]; done) | (simp [go_sem]; omega)) (h1 : b1 < W.heap.size := by first | assumption | omega | (simp [go_sem]; done) | (simp [go_sem]; omega)) (h2 : b2 < W.heap.size := by first | assumption | omega | (simp [go_sem]; done) | (simp [go_sem]; omega)) (h3 : b3 < W.heap.size := by first | assumption | omega | (simp [go_sem]; done) | (simp [go_sem]; omega)) (h4 : b4 < W.heap.size := by first | assumption | omega | (simp [go_sem]; done) | (simp [go_sem]; omega)) (h5 : b5 < W.heap.size := by first | assumption | omega | (simp [go_sem]; done) | (simp [go_sem]; omega)) (h6 : b6 < W.heap.size := by first | assumption | omega | (simp [go_sem]; done) | (simp [go_sem]; omega)) (h7 : b7 < W.heap.size := by first | assumption | omega | (simp [go_sem]; done) | (simp [go_sem]; omega)) : KB8 b0 b1 b2 b3 b4 b5 b6 b7 w W W := ⟨h.out, ⟨h0, h1, h2, h3, h4, h5, h6, h7⟩, fun _ => rfl, fun _ => rfl, fun _ => rfl, fun _ => rfl, fun _ => rfl, fun _ => rfl, fun _ => rfl, fun _ => rfl⟩
theorem wmul_v (x y : Int) (hx : In2 x) (hy : In2 y) (w : World) :
    Calls Try.prog 56 #[.agg #[.int .u64 (hiZ x), .int .u64 (loZ x)], .agg #[.int .u64 (hiZ y), .int .u64 (loZ y)]] w fun e w' => e = .returned (.tuple #[.agg #[.int .u64 (hiZ (fit2 (x * y))), .int .u64 (loZ (fit2 (x * y)))], .bool (fits2 (x * y))]) ∧ Up w w' := by
  have h := mul_up (hiZ x) (loZ x) (hiZ y) (loZ y) (hiZ_word hx) (loZ_word x) (hiZ_word hy) (loZ_word y) w
  rw [val_hilo, val_hilo] at h
  exact h
theorem wadd_v (x y : Int) (hx : In2 x) (hy : In2 y) (w : World) :
    Calls Try.prog 55 #[.agg #[.int .u64 (hiZ x), .int .u64 (loZ x)], .agg #[.int .u64 (hiZ y), .int .u64 (loZ y)]] w fun e w' => e = .returned (.tuple #[.agg #[.int .u64 (hiZ (fit2 (x + y))), .int .u64 (loZ (fit2 (x + y)))], .bool (fits2 (x + y))]) ∧ Up w w' := by
  have h := add_up (hiZ x) (loZ x) (hiZ y) (loZ y) (hiZ_word hx) (loZ_word x) (hiZ_word hy) (loZ_word y) w
  rw [val_hilo, val_hilo] at h
  exact h
theorem wof_v (x : Int) (hx : Word x) (w : World) :
    Calls Try.prog 57 #[.int .u64 x] w fun e w' => e = .returned (.agg #[.int .u64 (hiZ x), .int .u64 (loZ x)]) ∧ Up w w' := by
  have h := of_up x w
  obtain ⟨h0, h1⟩ := hx
  rw [show hiZ x = 0 by unfold hiZ; omega, show loZ x = x by unfold loZ; omega]
  exact h
theorem wpow_v (a : Int) (j : Nat) (h0 : 0 ≤ a) (h1 : a ≤ 16777217) (hj : j ≤ 4) (w : World) :
    Calls Try.prog 47 #[.int .u64 a, .int .i64 j] w fun e w' => e = .returned (.tuple #[.agg #[.int .u64 (hiZ (a ^ j)), .int .u64 (loZ (a ^ j))], .bool true]) ∧ Up w w' := by
  have h := pow_up a j ⟨h0, by omega⟩ ⟨by omega, by omega⟩ w
  rw [(age_powV h0 h1 hj).1, (age_powV h0 h1 hj).2] at h
  exact h
theorem fits2_in {v : Int} (h : fits2 v = true) : In2 v := (of_decide_eq_true (show decide (0 ≤ v ∧ v < 340282366920938463463374607431768211456) = true from h) : 0 ≤ v ∧ v < 340282366920938463463374607431768211456)
theorem word_in {x : Int} (h : Word x) : In2 x := by obtain ⟨a, b⟩ := h; exact ⟨a, by omega⟩
/-- A row written by its places. -/
theorem byL_eq {n : Nat} {f : Nat → Int} {M : List Int} (hl : M.length = n) (h : ∀ j, j < n → M.getD j 0 = f j) : M = byL n f := by
  subst hl
  rw [← byL_of (X := M)]
  rw [byL_len]
  exact byL_ext h
theorem getD_setI (M : List Int) (i j : Nat) (x : Int) (hi : i < M.length) : (M.set i x).getD j 0 = if i = j then x else M.getD j 0 := by
  simp only [List.getD, List.getElem?_set]
  by_cases e : i = j
  · subst e; simp [hi]
  · simp [e]
theorem flG_setW (x : Int) : ∀ (M : List Int) (i j : Nat), (flG cW (M.set i x))[j]? = if i < M.length ∧ j = i * 2 then some (.int .u64 (hiZ x)) else if i < M.length ∧ j = i * 2 + 1 then some (.int .u64 (loZ x)) else (flG cW M)[j]? := by
  intro M
  induction M with
  | nil => intro i j; simp [flG]
  | cons y M ih =>
    intro i j
    cases i with
    | zero =>
      simp only [List.set_cons_zero, flG, cW, List.cons_append, List.nil_append, List.length_cons]
      rcases j with _ | _ | j
      · simp
      · simp
      · simp
    | succ i =>
      simp only [List.set_cons_succ, flG, cW, List.cons_append, List.nil_append, List.length_cons]
      rcases j with _ | _ | j
      · simp; try omega
      · simp; try omega
      · simp only [List.getElem?_cons_succ]
        rw [ih i j]
        congr 1
        · simp; omega
        · congr 1
          simp; omega
/-- A store of a wide number into a row. -/
theorem SG.setW {w : World} {b o n i : Nat} {L : List Int} {x : Int} (h : SG cW w (some ⟨b, o, none⟩) n L) (hi : i < n) :
    SG cW ((w.setCell ⟨b, o + i * 2, none⟩ (.int .u64 (hiZ x))).setCell ⟨b, o + i * 2 + 1, none⟩ (.int .u64 (loZ x))) (some ⟨b, o, none⟩) n (L.set i x) := by
  refine ⟨by rw [List.length_set]; exact h.1, fun hn => ?_⟩
  obtain ⟨b', o', e, hc⟩ := h.2 hn
  injection e with e
  injection e with e1 e2
  subst e1 e2
  obtain ⟨b2, o2, e, c0, c1⟩ := wide_at h hi
  injection e with e
  injection e with e1 e2
  subst e1 e2
  refine ⟨b, o, rfl, fun j u hj => ?_⟩
  rw [flG_setW] at hj
  by_cases e0 : j = i * 2
  · subst e0
    rw [if_pos ⟨by rw [h.1]; exact hi, rfl⟩] at hj
    injection hj with hj
    subst hj
    rw [World.cell?_setCell_other _ _ _ _ (by intro e3; injection e3 with e4 e5; omega)]
    have q := cell_set (o := o + i * 2) (v := .int .u64 (hiZ x)) c0
    rw [if_pos rfl] at q
    exact q
  · rw [if_neg (fun q => e0 q.2)] at hj
    by_cases e1 : j = i * 2 + 1
    · subst e1
      rw [if_pos ⟨by rw [h.1]; exact hi, rfl⟩] at hj
      injection hj with hj
      subst hj
      have q := cell_set (w := w.setCell ⟨b, o + i * 2, none⟩ (.int .u64 (hiZ x))) (o := o + i * 2 + 1) (o' := o + i * 2 + 1) (v := .int .u64 (loZ x)) ((World.cell?_setCell_other _ _ _ _ (by intro e3; injection e3 with e4 e5; omega)).trans c1)
      rw [if_pos rfl] at q
      exact q
    · rw [if_neg (fun q => e1 q.2)] at hj
      rw [World.cell?_setCell_other _ _ _ _ (by intro e3; injection e3 with e4 e5; omega), World.cell?_setCell_other _ _ _ _ (by intro e3; injection e3 with e4 e5; omega)]
      exact hc j u hj
end Go.Proofs.Ytinjainclhfahaa
