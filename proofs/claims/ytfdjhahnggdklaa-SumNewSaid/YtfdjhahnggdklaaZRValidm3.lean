/- Texts of these claims, one after the other. -/
import Derived.Test.YtfdjhahnggdklaaZNumDivm2
import Derived.Test.YtfdjhahnggdklaaZWAdd
import Derived.Test.YtfdjhahnggdklaaZWCmpm5
import Derived.Test.YtfdjhahnggdklaaZWGcd
import Derived.Test.YtfdjhahnggdklaaZWMathm9
import Derived.Test.YtfdjhahnggdklaaZWMul
import Derived.Test.YtfdjhahnggdklaaZWRDiv2
namespace Go.Proofs.Ytfdjhahnggdklaa
open Go.RowKit

theorem valid_up (n d : Int) (_ : In n) (hd : In d) (w : World) :
    Calls Try.prog 55 #[.agg #[.int .i64 n, .int .i64 d]] w fun e w' => e = .returned (.bool (validB n d)) ∧ Up w w' := by
  by_cases h : d < 1
  · have t : decide (d < 1) = true := decide_eq_true h
    have H := Lib.hid (validB_low (n := n) h)
    clear h
    go_enter Try.func55, Try.ntmps55
    go_wp2
    go_ret
    refine ⟨by rw [H.out]; rfl, ?_⟩
    repeat (first | exact Up.refl _ | refine Up.alloc ?_ _ _ | refine Up.setCell ?_ (by first | (simp; done) | (simp; omega) | omega) _ | refine Up.drewN ?_ _ | refine Up.drew ?_)
  · have t : decide (d < 1) = false := decide_eq_false h
    have e1 : rests n d = rest n d := rests_yes (by omega)
    have hr := rest_in (a := n) hd (show d ≠ 0 by omega)
    have rp := rest_pos n d (by omega)
    have HM := Lib.hid (fun W => mod_any n d hd W)
    have H : (gcds (rest n d) d == 1) = validB n d := by
      rw [gcds_pos (by omega) (by omega), gcd_rest n d (by omega), validB_eq (by omega)]
      rw [Bool.eq_iff_iff]; simp; omega
    have H := Lib.hid H
    have HG := Lib.hid (fun W => gcd_any (rest n d) d hr hd W)
    rw [e1] at HM
    clear h hr rp e1
    generalize rest n d = r at *
    go_enter Try.func55, Try.ntmps55
    go_wp2_with fail
    refine (HM.out _).mono ?_
    rintro e w' ⟨rfl, rfl⟩
    go_wp2_with fail
    refine (HG.out _).mono ?_
    rintro e w1 ⟨rfl, k, rfl⟩
    go_wp2
    go_ret
    refine ⟨by rw [← H.out]; rfl, ?_⟩
    repeat (first | exact Up.refl _ | refine Up.alloc ?_ _ _ | refine Up.setCell ?_ (by first | (simp; done) | (simp; omega) | omega) _ | refine Up.drewN ?_ _ | refine Up.drew ?_)

theorem bothValid_up (n d m c : Int) (hn : In n) (hd : In d) (hm : In m) (hc : In c) (w : World) :
    Calls Try.prog 92 #[.agg #[.int .i64 n, .int .i64 d], .agg #[.int .i64 m, .int .i64 c]] w fun e w' => e = .returned (.bool (validB n d && validB m c)) ∧ Up w w' := by
  have H1 := Lib.hid (fun W => valid_up n d hn hd W)
  have H2 := Lib.hid (fun W => valid_up m c hm hc W)
  generalize validB n d = p at *
  generalize validB m c = q at *
  cases p
  · go_enter Try.func92, Try.ntmps92
    go_wp2_with fail
    refine (H1.out _).mono ?_
    rintro e w1 ⟨rfl, hu1⟩
    obtain ⟨hc1, hz1⟩ := hu1.cells
    have hs1 := hu1.size
    try simp at hs1
    try unfold got2
    have p1_0 : w.heap.size < w1.heap.size := by omega
    have p1_1 : w.heap.size + 1 < w1.heap.size := by omega
    go_wp2_with fail
    go_ret
    refine ⟨rfl, ?_⟩
    repeat (first | exact Up.refl _ | refine Up.trans ?_ hu1 | refine Up.alloc ?_ _ _ | refine Up.setCell ?_ (by first | (simp; done) | (simp; omega) | omega) _ | refine Up.drewN ?_ _ | refine Up.drew ?_)
  · go_enter Try.func92, Try.ntmps92
    go_wp2_with fail
    refine (H1.out _).mono ?_
    rintro e w1 ⟨rfl, hu1⟩
    obtain ⟨hc1, hz1⟩ := hu1.cells
    have hs1 := hu1.size
    try simp at hs1
    try unfold got2
    have p1_0 : w.heap.size < w1.heap.size := by omega
    have p1_1 : w.heap.size + 1 < w1.heap.size := by omega
    go_wp2_with fail
    refine (H2.out _).mono ?_
    rintro e w2 ⟨rfl, hu2⟩
    obtain ⟨hc2, hz2⟩ := hu2.cells
    have hs2 := hu2.size
    try simp at hs2
    try unfold got2
    go_wp2_with fail
    go_ret
    refine ⟨rfl, ?_⟩
    repeat (first | exact Up.refl _ | refine Up.trans ?_ hu2 | refine Up.trans ?_ hu1 | refine Up.alloc ?_ _ _ | refine Up.setCell ?_ (by first | (simp; done) | (simp; omega) | omega) _ | refine Up.drewN ?_ _ | refine Up.drew ?_)

theorem gcdZ_abs (n d : Int) (hd : 1 ≤ d) : gcdZ (val 0 (n.natAbs : Int)) (val 0 d) = (Nat.gcd n.natAbs d.natAbs : Nat) := by
  have e1 : val 0 (n.natAbs : Int) = (n.natAbs : Int) := by unfold val; omega
  have e2 : val 0 d = d := by unfold val; omega
  have e3 : d.toNat = d.natAbs := by omega
  rw [e1, e2]; unfold gcdZ; rw [Int.toNat_natCast, e3]
theorem gcd_small (n d : Int) (hd : 1 ≤ d) (hi : In d) : 0 ≤ ((Nat.gcd n.natAbs d.natAbs : Nat) : Int) ∧ ((Nat.gcd n.natAbs d.natAbs : Nat) : Int) ≤ 9223372036854775807 := by
  obtain ⟨_, d2⟩ := hi
  have := Nat.gcd_le_right n.natAbs (show 0 < d.natAbs by omega)
  omega
theorem word_int {d : Int} (h : 1 ≤ d) (hd : In d) : Word d := by obtain ⟨_, d2⟩ := hd; exact ⟨by omega, by omega⟩

set_option maxHeartbeats 2000000 in
theorem rvalid_up (n d : Int) (hn : In n) (hd : In d) (w : World) :
    Calls Try.prog 110 #[.agg #[.int .i64 n, .int .i64 d]] w fun e w' => e = .returned (.bool (validB n d)) ∧ Up w w' := by
  by_cases h : 1 ≤ d
  · have t : decide (1 ≤ d) = true := decide_eq_true h
    have hw : IntKind.u64.wrap d = d := by rw [IntKind.wrap_u64]; obtain ⟨_, d2⟩ := hd; omega
    have HG := Lib.hid (fun W => rgcd_up 0 (n.natAbs : Int) 0 d word_0 (abs_word hn) word_0 (word_int h hd) W)
    rw [gcdZ_abs n d h] at HG
    have HA := Lib.hid (fun W => rabs_any n hn W)
    obtain ⟨g0, g1⟩ := gcd_small n d h hd
    have HV := Lib.hid (validB_eq (n := n) h)
    have hx : (((Nat.gcd n.natAbs d.natAbs : Nat) : Int) = 1 ∧ validB n d = true) ∨ (((Nat.gcd n.natAbs d.natAbs : Nat) : Int) ≠ 1 ∧ validB n d = false) := by
      rw [HV.out]
      by_cases e : Nat.gcd n.natAbs d.natAbs = 1
      · exact Or.inl ⟨by omega, decide_eq_true e⟩
      · exact Or.inr ⟨by omega, decide_eq_false e⟩
    clear HV
    generalize ((Nat.gcd n.natAbs d.natAbs : Nat) : Int) = g at *
    have hi : hiZ g = 0 := by unfold hiZ; omega
    have hl : loZ g = g := by unfold loZ; omega
    rw [hi, hl] at HG
    clear h hi hl g0 g1 hn hd
    rcases hx with ⟨e1, e2⟩ | ⟨e1, e2⟩
    · subst e1
      have H := Lib.hid e2
      clear e2
      go_enter Try.func110, Try.ntmps110
      go_wp2_with fail
      go_region_held3 (fun w' => Up w w' ∧ w'.cell? ⟨w.heap.size, 0, none⟩ = some (.int .i64 n) ∧ w'.cell? ⟨w.heap.size, 1, none⟩ = some (.int .i64 d))
        (first | (exact keep2 (by assumption) (by assumption)) | (refine ⟨?_, by simp [go_sem], by simp [go_sem]⟩; repeat (first | exact Up.refl _ | refine Up.alloc ?_ _ _ | refine Up.setCell ?_ (by first | (simp; done) | (simp; omega) | omega) _ | refine Up.drewN ?_ _ | refine Up.drew ?_)))
        (first
          | (go_at_call 117; (with_reducible refine (HA.out _).mono ?_); rintro e w' ⟨rfl, rfl⟩)
          | (go_at_call 116; (with_reducible refine (rof_up _ _).mono ?_); rintro e w' ⟨rfl, hu⟩; have HU := Lib.hid hu; clear hu)
          | (go_at_call 115; (with_reducible refine (HG.out _).mono ?_); rintro e w' ⟨rfl, hu⟩; have HU := Lib.hid hu; clear hu))
      all_goals
        go_wp2
        go_ret
        exact ⟨by rw [H.out]; rfl, And.left (by assumption)⟩
    · have t1 : (g == 1) = false := beq_eq_false_iff_ne.2 e1
      have H := Lib.hid e2
      clear e1 e2
      go_enter Try.func110, Try.ntmps110
      go_wp2_with fail
      go_region_held3 (fun w' => Up w w' ∧ w'.cell? ⟨w.heap.size, 0, none⟩ = some (.int .i64 n) ∧ w'.cell? ⟨w.heap.size, 1, none⟩ = some (.int .i64 d))
        (first | (exact keep2 (by assumption) (by assumption)) | (refine ⟨?_, by simp [go_sem], by simp [go_sem]⟩; repeat (first | exact Up.refl _ | refine Up.alloc ?_ _ _ | refine Up.setCell ?_ (by first | (simp; done) | (simp; omega) | omega) _ | refine Up.drewN ?_ _ | refine Up.drew ?_)))
        (first
          | (go_at_call 117; (with_reducible refine (HA.out _).mono ?_); rintro e w' ⟨rfl, rfl⟩)
          | (go_at_call 116; (with_reducible refine (rof_up _ _).mono ?_); rintro e w' ⟨rfl, hu⟩; have HU := Lib.hid hu; clear hu)
          | (go_at_call 115; (with_reducible refine (HG.out _).mono ?_); rintro e w' ⟨rfl, hu⟩; have HU := Lib.hid hu; clear hu))
      all_goals
        go_wp2
        go_ret
        exact ⟨by rw [H.out]; rfl, And.left (by assumption)⟩
  · have t : decide (1 ≤ d) = false := decide_eq_false h
    have H := Lib.hid (validB_low (n := n) (show d < 1 by omega))
    clear h
    go_enter Try.func110, Try.ntmps110
    go_wp2_with fail
    go_quiet (fail)
    all_goals
      go_wp2
      go_ret
      refine ⟨by rw [H.out]; rfl, ?_⟩
      repeat (first | exact Up.refl _ | refine Up.alloc ?_ _ _ | refine Up.setCell ?_ (by first | (simp; done) | (simp; omega) | omega) _ | refine Up.drewN ?_ _ | refine Up.drew ?_)

end Go.Proofs.Ytfdjhahnggdklaa

namespace Go.Proofs.Ytfdjhahnggdklaa
open Go.RowKit

/-- A rational number and a bool. -/
def gotR (n d : Int) (b : Bool) : Ending := .returned (.tuple #[.agg #[.int .i64 n, .int .i64 d], .bool b])

theorem own1 {w w' : World} (h : Up w w') (o : Nat) : w'.frozen? ⟨w.heap.size + 1, o, none⟩ = false := h.own 1 o
theorem own0 {w w' : World} (h : Up w w') (o : Nat) : w'.frozen? ⟨w.heap.size, o, none⟩ = false := h.own 0 o

end Go.Proofs.Ytfdjhahnggdklaa

namespace Go.Proofs.Ytfdjhahnggdklaa
open Go.RowKit

theorem add_v (x y : Int) (hx : In2 x) (hy : In2 y) (h : In2 (x + y)) (w : World) :
    Calls Try.prog 95 #[.agg #[.int .u64 (hiZ x), .int .u64 (loZ x)], .agg #[.int .u64 (hiZ y), .int .u64 (loZ y)]] w fun e w' => e = got2 (x + y) true ∧ Up w w' := by
  have g := add_up (hiZ x) (loZ x) (hiZ y) (loZ y) (hiZ_word hx) (loZ_word x) (hiZ_word hy) (loZ_word y) w
  rw [val_hilo, val_hilo, fit2_yes h, fits2_yes h] at g
  exact g
theorem sub_v (x y : Int) (hx : In2 x) (hy : In2 y) (h : In2 (x - y)) (w : World) :
    Calls Try.prog 97 #[.agg #[.int .u64 (hiZ x), .int .u64 (loZ x)], .agg #[.int .u64 (hiZ y), .int .u64 (loZ y)]] w fun e w' => e = got2 (x - y) true ∧ Up w w' := by
  have g := sub_up (hiZ x) (loZ x) (hiZ y) (loZ y) (hiZ_word hx) (loZ_word x) (hiZ_word hy) (loZ_word y) w
  rw [val_hilo, val_hilo, fit2_yes h, fits2_yes h] at g
  exact g
end Go.Proofs.Ytfdjhahnggdklaa
