/- Texts of these claims, one after the other. -/
import Derived.Test.YtegaeaonoggmkaaRows
import Derived.Test.YtegaeaonoggmkaaZGCallq85
import Derived.Test.YtegaeaonoggmkaaZIMathq72
import Derived.Test.YtegaeaonoggmkaaZSLeftq102
namespace Go.Proofs.Ytegaeaonoggmkaa
open Go.RowKit
set_option linter.unusedVariables false

theorem makeN_run_ (c : Nat) (hc : c ≤ 100000) (w : World) : (Instr.makeSlice 22 (.int .i64 (c : Int)) (.int .i64 (c : Int))).run Try.prog w = .ok (.slice (some ⟨w.heap.size, 0, none⟩) c c) (w.alloc (.cells (nl (List.replicate c 0)).toArray 2)) := makeN_run c (by omega) w
theorem madeN_row (w : World) (c : Nat) : Sn (w.alloc (.cells (nl (List.replicate c 0)).toArray 2)) (some ⟨w.heap.size, 0, none⟩) c (List.replicate c 0) := (Bn.new w _ _ rfl).sn (by simp)
theorem KB1.base {b0 : Nat} {w W : World} (h : Hid (Up w W)) (h0 : b0 < W.heap.size := by first | assumption | omega | (simp [go_sem]; done) | (simp [go_sem]; omega)) : KB1 b0 w W W := ⟨h.out, h0, fun _ => rfl⟩
theorem KB2.base {b0 b1 : Nat} {w W : World} (h : Hid (Up w W)) (h0 : b0 < W.heap.size := by first | assumption | omega | (simp [go_sem]; done) | (simp [go_sem]; omega)) (h1 : b1 < W.heap.size := by first | assumption | omega | (simp [go_sem]; done) | (simp [go_sem]; omega)) : KB2 b0 b1 w W W := ⟨h.out, ⟨h0, h1⟩, fun _ => rfl, fun _ => rfl⟩
theorem KB3.base {b0 b1 b2 : Nat} {w W : World} (h : Hid (Up w W)) (h0 : b0 < W.heap.size := by first | assumption | omega | (simp [go_sem]; done) | (simp [go_sem]; omega)) (h1 : b1 < W.heap.size := by first | assumption | omega | (simp [go_sem]; done) | (simp [go_sem]; omega)) (h2 : b2 < W.heap.size := by first | assumption | omega | (simp [go_sem]; done) | (simp [go_sem]; omega)) : KB3 b0 b1 b2 w W W := ⟨h.out, ⟨h0, h1, h2⟩, fun _ => rfl, fun _ => rfl, fun _ => rfl⟩
theorem KB4.base {b0 b1 b2 b3 : Nat} {w W : World} (h : Hid (Up w W)) (h0 : b0 < W.heap.size := by first | assumption | omega | (simp [go_sem]; done) | (simp [go_sem]; omega)) (h1 : b1 < W.heap.size := by first | assumption | omega | (simp [go_sem]; done) | (simp [go_sem]; omega)) (h2 : b2 < W.heap.size := by first | assumption | omega | (simp [go_sem]; done) | (simp [go_sem]; omega)) (h3 : b3 < W.heap.size := by first | assumption | omega | (simp [go_sem]; done) | (simp [go_sem]; omega)) : KB4 b0 b1 b2 b3 w W W := ⟨h.out, ⟨h0, h1, h2, h3⟩, fun _ => rfl, fun _ => rfl, fun _ => rfl, fun _ => rfl⟩
theorem KB5.base {b0 b1 b2 b3 b4 : Nat} {w W : World} (h : Hid (Up w W)) (h0 : b0 < W.heap.size := by first | assumption | omega | (simp [go_sem]; done) | (simp [go_sem]; omega)) (h1 : b1 < W.heap.size := by first | assumption | omega | (simp [go_sem]; done) | (simp [go_sem]; omega)) (h2 : b2 < W.heap.size := by first | assumption | omega | (simp [go_sem]; done) | (simp [go_sem]; omega)) (h3 : b3 < W.heap.size := by first | assumption | omega | (simp [go_sem]; done) | (simp [go_sem]; omega)) (h4 : b4 < W.heap.size := by first | assumption | omega | (simp [go_sem]; done) | (simp [go_sem]; omega)) : KB5 b0 b1 b2 b3 b4 w W W := ⟨h.out, ⟨h0, h1, h2, h3, h4⟩, fun _ => rfl, fun _ => rfl, fun _ => rfl, fun _ => rfl, fun _ => rfl⟩
theorem KB6.base {b0 b1 b2 b3 b4 b5 : Nat} {w W : World} (h : Hid (Up w W)) (h0 : b0 < W.heap.size := by first | assumption | omega | (simp [go_sem]; done) | (simp [go_sem]; omega)) (h1 : b1 < W.heap.size := by first | assumption | omega | (simp [go_sem]; done) | (simp [go_sem]; omega)) (h2 : b2 < W.heap.size := by first | assumption | omega | (simp [go_sem]; done) | (simp [go_sem]; omega)) (h3 : b3 < W.heap.size := by first | assumption | omega | (simp [go_sem]; done) | (simp [go_sem]; omega)) (h4 : b4 < W.heap.size := by first | assumption | omega | (simp [go_sem]; done) | (simp [go_sem]; omega)) (h5 : b5 < W.heap.size := by first | assumption | omega | (simp [go_sem]; done) | (simp [go_sem]; omega)) : KB6 b0 b1 b2 b3 b4 b5 w W W := ⟨h.out, ⟨h0, h1, h2, h3, h4, h5⟩, fun _ => rfl, fun _ => rfl, fun _ => rfl, fun _ => rfl, fun _ => rfl, fun _ => rfl⟩
theorem KB7.base {b0 b1 b2 b3 b4 b5 b6 : Nat} {w W : World} (h : Hid (Up w W)) (h0 : b0 < W.heap.size := by first | assumption | omega | (simp [go_sem]; done) | (simp [go_sem]; omega)) (h1 : b1 < W.heap.size := by first | assumption | omega | (simp [go_sem]; done) | (simp [go_sem]; omega)) (h2 : b2 < W.heap.size := by first | assumption | omega | (simp [go_sem]; done) | (simp [go_sem]; omega)) (h3 : b3 < W.heap.size := by first | assumption | omega | (simp [go_sem]; done) | (simp [go_sem]; omega)) (h4 : b4 < W.heap.size := by first | assumption | omega | (simp [go_sem]; done) | (simp [go_sem]; omega)) (h5 : b5 < W.heap.size := by first | assumption | omega | (simp [go_sem]; done) | (simp [go_sem]; omega)) (h6 : b6 < W.heap.size := by first | assumption | omega | (simp [go_sem]; done) | (simp [go_sem]; omega)) : KB7 b0 b1 b2 b3 b4 b5 b6 w W W := ⟨h.out, ⟨h0, h1, h2, h3, h4, h5, h6⟩, fun _ => rfl, fun _ => rfl, fun _ => rfl, fun _ => rfl, fun _ => rfl, fun _ => rfl, fun _ => rfl⟩
theorem KB8.base {b0 b1 b2 b3 b4 b5 b6 b7 : Nat} {w W : World} (h : Hid (Up w W)) (h0 : b0 < W.heap.size := by first | assumption | omega | (simp [go_sem]; done) | (simp [go_sem]; omega)) (h1 : b1 < W.heap.size := by first | assumption | omega | (simp [go_sem]; done) | (simp [go_sem]; omega)) (h2 : b2 < W.heap.size := by first | assumption | omega | (simp [go_sem]; done) | (simp [go_sem]; omega)) (h3 : b3 < W.heap.size := by first | assumption | omega | (simp [go_sem]; done) | (simp [go_sem]; omega)) (h4 : b4 < W.heap.size := by first | assumption | omega | (simp [go_sem]; done) | (simp [go_sem]; omega)) (h5 : b5 < W.heap.size := by first | assumption | omega | (simp [go_sem]; done) | (simp [go_sem]; omega)) (h6 : b6 < W.heap.size := by first | assumption | omega | (simp [go_sem]; done) | (simp [go_sem]; omega)) (h7 : b7 < W.heap.size := by first | assumption | omega | (simp [go_sem]; done) | (simp [go_sem]; omega)) : KB8 b0 b1 b2 b3 b4 b5 b6 b7 w W W := ⟨h.out, ⟨h0, h1, h2, h3, h4, h5, h6, h7⟩, fun _ => rfl, fun _ => rfl, fun _ => rfl, fun _ => rfl, fun _ => rfl, fun _ => rfl, fun _ => rfl, fun _ => rfl⟩
theorem isLength16_any (p : Int) (w : World) :
    Calls Try.prog 29 #[.int .i64 p] w fun e w' => e = .returned (.bool (decide (1 ≤ p ∧ p ≤ 64))) ∧ w = w' := by
  by_cases h : 1 ≤ p
  · by_cases k : p ≤ 64
    · rw [show decide (1 ≤ p ∧ p ≤ 64) = true from decide_eq_true ⟨h, k⟩]
      go_enter Try.func29, Try.ntmps29
      go_wp2
      go_ret
      exact ⟨rfl, rfl⟩
    · rw [show decide (1 ≤ p ∧ p ≤ 64) = false from decide_eq_false (fun g => k g.2)]
      go_enter Try.func29, Try.ntmps29
      go_wp2
      go_ret
      exact ⟨rfl, rfl⟩
  · rw [show decide (1 ≤ p ∧ p ≤ 64) = false from decide_eq_false (fun g => h g.1)]
    go_enter Try.func29, Try.ntmps29
    go_wp2
    go_ret
    exact ⟨rfl, rfl⟩
theorem isTick16_any (p : Int) (w : World) :
    Calls Try.prog 30 #[.int .i64 p] w fun e w' => e = .returned (.bool (decide (0 ≤ p ∧ p ≤ 16777216))) ∧ w = w' := by
  by_cases h : 0 ≤ p
  · by_cases k : p ≤ 16777216
    · rw [show decide (0 ≤ p ∧ p ≤ 16777216) = true from decide_eq_true ⟨h, k⟩]
      go_enter Try.func30, Try.ntmps30
      go_wp2
      go_ret
      exact ⟨rfl, rfl⟩
    · rw [show decide (0 ≤ p ∧ p ≤ 16777216) = false from decide_eq_false (fun g => k g.2)]
      go_enter Try.func30, Try.ntmps30
      go_wp2
      go_ret
      exact ⟨rfl, rfl⟩
  · rw [show decide (0 ≤ p ∧ p ≤ 16777216) = false from decide_eq_false (fun g => h g.1)]
    go_enter Try.func30, Try.ntmps30
    go_wp2
    go_ret
    exact ⟨rfl, rfl⟩
theorem isTotal16_any (p : Int) (w : World) :
    Calls Try.prog 45 #[.int .i64 p] w fun e w' => e = .returned (.bool (decide (0 ≤ p ∧ p ≤ 1099511627776))) ∧ w = w' := by
  by_cases h : 0 ≤ p
  · by_cases k : p ≤ 1099511627776
    · rw [show decide (0 ≤ p ∧ p ≤ 1099511627776) = true from decide_eq_true ⟨h, k⟩]
      go_enter Try.func45, Try.ntmps45
      go_wp2
      go_ret
      exact ⟨rfl, rfl⟩
    · rw [show decide (0 ≤ p ∧ p ≤ 1099511627776) = false from decide_eq_false (fun g => k g.2)]
      go_enter Try.func45, Try.ntmps45
      go_wp2
      go_ret
      exact ⟨rfl, rfl⟩
  · rw [show decide (0 ≤ p ∧ p ≤ 1099511627776) = false from decide_eq_false (fun g => h g.1)]
    go_enter Try.func45, Try.ntmps45
    go_wp2
    go_ret
    exact ⟨rfl, rfl⟩
set_option maxHeartbeats 4000000 in
set_option maxRecDepth 100000 in
theorem holding16_up (now : Int) (n k : Nat) (A : Option Addr) (r : Bool) (w : World) :
    Calls Try.prog 37 #[.int .i64 now, .slice A n k, .bool r] w fun e w' => e = .returned (if r = true then .tuple #[.agg #[.int .i64 now, .slice A n k], .int .i64 0] else .tuple #[.agg #[.int .i64 0, .slice none 0 0], .int .i64 6]) ∧ Up w w' := by
  cases r
  · go_enter Try.func37, Try.ntmps37
    go_wp2_with fail
    refine bodyPost_ret (v := .tuple #[.agg #[.int .i64 0, .slice none 0 0], .int .i64 6]) (by simp [results, Try.results37, go_sem]) rfl ⟨?_, ?_⟩
    · rfl
    · repeat (first | exact Up.refl _ | refine Up.alloc ?_ _ _ | refine Up.setCell ?_ (by first | (simp; done) | (simp; omega) | omega) _ | refine Up.drewN ?_ _ | refine Up.drew ?_)
  · go_enter Try.func37, Try.ntmps37
    go_wp2_with fail
    refine bodyPost_ret (v := .tuple #[.agg #[.int .i64 now, .slice A n k], .int .i64 0]) (by simp [results, Try.results37, go_sem]) rfl ⟨?_, ?_⟩
    · rfl
    · repeat (first | exact Up.refl _ | refine Up.alloc ?_ _ _ | refine Up.setCell ?_ (by first | (simp; done) | (simp; omega) | omega) _ | refine Up.drewN ?_ _ | refine Up.drew ?_)
set_option maxHeartbeats 4000000 in
set_option maxRecDepth 100000 in
theorem new16_up (a t : Int) (w : World) :
    Calls Try.prog 9 #[.int .i64 a, .int .i64 t] w fun e w' => RsH (nwH a t) w e w' := by
  have KP := Lib.hid (isLength16_any a)
  have KT := Lib.hid (isTick16_any t)
  unfold nwH
  by_cases ha : 1 ≤ a ∧ a ≤ 64
  case neg =>
    rw [if_neg (fun h => ha h.1)]
    rw [show decide (1 ≤ a ∧ a ≤ 64) = false from decide_eq_false ha] at KP
    clear ha
    go_enter Try.func9, Try.ntmps9
    go_wp2_with (first  | (go_at_call 29; (with_reducible refine (KP.out _).mono ?_); rintro e w' ⟨rfl, rfl⟩)  | (go_at_call 30; (with_reducible refine (KT.out _).mono ?_); rintro e w' ⟨rfl, rfl⟩))
    refine bodyPost_ret (v := .tuple #[.agg #[.int .i64 0, .slice none 0 0], .int .i64 1]) (by simp [results, Try.results9, go_sem]) rfl (RsH.no rfl ?_)
    repeat (first | exact Up.refl _ | refine Up.alloc ?_ _ _ | refine Up.setCell ?_ (by first | (simp; done) | (simp; omega) | omega) _ | refine Up.drewN ?_ _ | refine Up.drew ?_)
  by_cases ht : 0 ≤ t ∧ t ≤ 16777216
  case neg =>
    rw [if_neg (fun h => ht h.2)]
    rw [show decide (0 ≤ t ∧ t ≤ 16777216) = false from decide_eq_false ht] at KT
    rw [show decide (1 ≤ a ∧ a ≤ 64) = true from decide_eq_true ha] at KP
    obtain ⟨h0, h1⟩ := ha
    clear ht
    go_enter Try.func9, Try.ntmps9
    go_wp2_with (first  | (go_at_call 29; (with_reducible refine (KP.out _).mono ?_); rintro e w' ⟨rfl, rfl⟩)  | (go_at_call 30; (with_reducible refine (KT.out _).mono ?_); rintro e w' ⟨rfl, rfl⟩))
    refine bodyPost_ret (v := .tuple #[.agg #[.int .i64 0, .slice none 0 0], .int .i64 1]) (by simp [results, Try.results9, go_sem]) rfl (RsH.no rfl ?_)
    repeat (first | exact Up.refl _ | refine Up.alloc ?_ _ _ | refine Up.setCell ?_ (by first | (simp; done) | (simp; omega) | omega) _ | refine Up.drewN ?_ _ | refine Up.drew ?_)
  rw [if_pos ⟨ha, ht⟩]
  rw [show decide (0 ≤ t ∧ t ≤ 16777216) = true from decide_eq_true ht] at KT
  rw [show decide (1 ≤ a ∧ a ≤ 64) = true from decide_eq_true ha] at KP
  obtain ⟨N, rfl⟩ : ∃ m : Nat, a = m := ⟨a.toNat, by omega⟩
  rw [Int.toNat_natCast]
  obtain ⟨h0, h1⟩ := ha
  have mk := fun W => makeN_run_ N (by omega) W
  clear ht
  go_enter Try.func9, Try.ntmps9
  go_wp2_with (first  | (go_at_call 29; (with_reducible refine (KP.out _).mono ?_); rintro e w' ⟨rfl, rfl⟩)  | (go_at_call 30; (with_reducible refine (KT.out _).mono ?_); rintro e w' ⟨rfl, rfl⟩))
  refine bodyPost_ret (v := .tuple #[.agg #[.int .i64 t, .slice (some ⟨w.heap.size + 1, 0, none⟩) N N], .int .i64 0]) (by simp [results, Try.results9, go_sem]; try rfl) rfl (RsH.yes rfl ?_ ?_ ?_)
  · exact ⟨Nat.le_refl _, fun b o e => by injection e with e; injection e with e; omega⟩
  · have := fun c => madeN_row (w.alloc c) N
    simp only [size_alloc] at this
    exact this _
  · repeat (first | exact Up.refl _ | refine Up.alloc ?_ _ _ | refine Up.setCell ?_ (by first | (simp; done) | (simp; omega) | omega) _ | refine Up.drewN ?_ _ | refine Up.drew ?_)
end Go.Proofs.Ytegaeaonoggmkaa

namespace Go.Proofs.Ytegaeaonoggmkaa
open Go.RowKit
set_option linter.unusedVariables false

theorem wadd_o (x y : Int) (hx : In2 x) (hy : In2 y) (hs : In2 (x + y)) (w : World) :
    Calls Try.prog 40 #[.agg #[.int .u64 (hiZ x), .int .u64 (loZ x)], .agg #[.int .u64 (hiZ y), .int .u64 (loZ y)]] w fun e w' => e = .returned (.tuple #[.agg #[.int .u64 (hiZ (x + y)), .int .u64 (loZ (x + y))], .bool true]) ∧ Up w w' := by
  have h := add_up (hiZ x) (loZ x) (hiZ y) (loZ y) (hiZ_word hx) (loZ_word x) (hiZ_word hy) (loZ_word y) w
  rw [val_hilo, val_hilo] at h
  rw [show fit2 (x + y) = x + y from fit2_yes hs, show fits2 (x + y) = true from fits2_yes hs] at h
  exact h
theorem wof_o (x : Int) (hx : Word x) (w : World) :
    Calls Try.prog 41 #[.int .u64 x] w fun e w' => e = .returned (.agg #[.int .u64 (hiZ x), .int .u64 (loZ x)]) ∧ Up w w' := by
  have h := of_up x w
  obtain ⟨h0, h1⟩ := hx
  rw [show hiZ x = 0 by unfold hiZ; omega, show loZ x = x by unfold loZ; omega]
  exact h
theorem wleft_o (x : Int) (m : Nat) (hx : In2 x) (hm : m ≤ 1000) (hi : In2 (x * 2 ^ m)) (w : World) :
    Calls Try.prog 39 #[.agg #[.int .u64 (hiZ x), .int .u64 (loZ x)], .int .i64 m] w fun e w' => e = .returned (.tuple #[.agg #[.int .u64 (hiZ (x * 2 ^ m)), .int .u64 (loZ (x * 2 ^ m))], .bool true]) ∧ Up w w' := by
  have h := left_up (hiZ x) (loZ x) m (hiZ_word hx) (loZ_word x) ⟨by omega, by omega⟩ w
  have q := leftB_yes (v := x) (n := m) (by omega) (by rw [Int.toNat_natCast]; exact hi)
  rw [Int.toNat_natCast] at q
  rw [val_hilo, q.1, q.2] at h
  exact h
end Go.Proofs.Ytegaeaonoggmkaa
