/- Texts of these claims, one after the other. -/
import Derived.Test.YtchikndofpkjmaaRows
import Derived.Test.YtchikndofpkjmaaZWCmpq11
namespace Go.Proofs.Ytchikndofpkjmaa

def fits2 (v : Int) : Bool := decide (0 ≤ v ∧ v < 340282366920938463463374607431768211456)
def fit2 (v : Int) : Int := if fits2 v = true then v else 0

theorem fits2_yes {v : Int} (h : In2 v) : fits2 v = true := by unfold fits2; exact decide_eq_true h
theorem fits2_no {v : Int} (h : ¬ In2 v) : fits2 v = false := by unfold fits2; exact decide_eq_false h
theorem fit2_yes {v : Int} (h : In2 v) : fit2 v = v := by unfold fit2; rw [if_pos (fits2_yes h)]
theorem fit2_no {v : Int} (h : ¬ In2 v) : fit2 v = 0 := by unfold fit2; rw [fits2_no h]; rfl
/-! ### The next half of a quotient -/
end Go.Proofs.Ytchikndofpkjmaa

namespace Go.Proofs.Ytchikndofpkjmaa
open Go.RowKit

/-- A number of two words as a value, and a pair of it and a bool. -/
def wd (v : Int) : Value := .agg #[.int .u64 (hiZ v), .int .u64 (loZ v)]
theorem add64 (x y c : Int) (hx : 0 ≤ x) (hy : 0 ≤ y) (hc0 : 0 ≤ c) (hc : c ≤ 1) (w : World) : (callFunc 106 #[.int .u64 x, .int .u64 y, .int .u64 c]).run Try.prog w =
    .ok (.value (.tuple #[.int .u64 ((x + y + c) % 18446744073709551616), .int .u64 ((x + y + c) / 18446744073709551616)])) w := by
  rw [run_callFunc_extern Try.func106 (by kernel_rfl) (by kernel_rfl) (by kernel_rfl) (e := add64Entry) (by kernel_rfl), run_add64 x y c hx hy hc0 hc]
  rfl
theorem add64_0 (x y : Int) (hx : 0 ≤ x) (hy : 0 ≤ y) (w : World) : (callFunc 106 #[.int .u64 x, .int .u64 y, .int .u64 0]).run Try.prog w =
    .ok (.value (.tuple #[.int .u64 ((x + y) % 18446744073709551616), .int .u64 ((x + y) / 18446744073709551616)])) w := by
  simpa using add64 x y 0 hx hy (Int.le_refl 0) (by decide) w

end Go.Proofs.Ytchikndofpkjmaa

namespace Go.Proofs.Ytchikndofpkjmaa
open Go.RowKit

/-- What the form says of an int64 argument. -/
theorem in_of_wf {x : Int} (h : (Lit.int .i64 x).wf = true) : In x := by
  simp [Lit.wf, IntKind.min, IntKind.max, IntKind.signed, IntKind.bits] at h
  exact ⟨by omega, by omega⟩

/-! ### The reference's sums -/
end Go.Proofs.Ytchikndofpkjmaa

namespace Go.Proofs.Ytchikndofpkjmaa
open Go.RowKit

theorem rbits_any (n : Int) (hn : In n) (w : World) :
    Calls Try.prog 46 #[.int .i64 n] w fun e w' => e = .returned (.int .i64 (bitsZ n)) ∧ w = w' := by
  obtain ⟨n1, n2⟩ := hn
  have hb := bitsZ_bound n
  have HB := Lib.hid hb
  clear hb
  go_enter Try.func46, Try.ntmps46
  go_wp2
  go_loop [0, 3] (fun t k => ∃ m c : Int, t = .int .i64 m ∧ k = .int .i64 c ∧ m ≤ 9223372036854775807 ∧ -9223372036854775808 ≤ m ∧ 0 ≤ c ∧ Hid (c + bitsZ m = bitsZ n)) (fun t _ => (intOf t).toNat)
  case atStart => exact ⟨n, 0, rfl, rfl, n2, n1, by omega, Lib.hid (by omega)⟩
  case round =>
    obtain ⟨m, c, rfl, rfl, m2, m1, hc, HR⟩ := hrel
    by_cases hm : 0 < m
    · have hs := bitsZ_step m hm
      have hcu : c ≤ 9223372036854775806 := by
        have := HR.out; have := HB.out; have := bitsZ_bound (m / 2); omega
      have HS := Lib.hid hs
      clear hs
      go_wp2
      go_round
      case rel => exact ⟨m / 2, c + 1, rfl, rfl, by omega, by omega, by omega, Lib.hid (by have := HS.out; have := HR.out; omega)⟩
      case measure => simp only [intOf]; omega
    · go_wp2
      go_ret
      have e1 := bitsZ_low m (by omega)
      exact ⟨by rw [← HR.out, e1, Int.add_zero]; rfl, rfl⟩


end Go.Proofs.Ytchikndofpkjmaa

namespace Go.Proofs.Ytchikndofpkjmaa

theorem validB_of {n d : Int} (h : validB n d = true) : 1 ≤ d ∧ Nat.gcd n.natAbs d.natAbs = 1 := by unfold validB at h; exact of_decide_eq_true h
end Go.Proofs.Ytchikndofpkjmaa

namespace Go.Proofs.Ytchikndofpkjmaa
open Go.RowKit

/-- The cells that the walk of product holds. -/
structure Pr (w wr : World) (p0 p1 p2 p3 bh bl : Int) : Prop where
  up : Up w wr
  b0 : wr.cell? ⟨w.heap.size + 1, 0, none⟩ = some (.int .u64 bh)
  b1 : wr.cell? ⟨w.heap.size + 1, 1, none⟩ = some (.int .u64 bl)
  r0 : wr.cell? ⟨w.heap.size + 1 + 1, 0, none⟩ = some (.int .u64 0)
  r1 : wr.cell? ⟨w.heap.size + 1 + 1, 1, none⟩ = some (.int .u64 0)
  r2 : wr.cell? ⟨w.heap.size + 1 + 1, 2, none⟩ = some (.int .u64 0)
  r3 : wr.cell? ⟨w.heap.size + 1 + 1, 3, none⟩ = some (.int .u64 0)
  c0 : wr.cell? ⟨w.heap.size + 1 + 1 + 1, 0, none⟩ = some (.int .u64 p0)
  c1 : wr.cell? ⟨w.heap.size + 1 + 1 + 1, 1, none⟩ = some (.int .u64 p1)
  c2 : wr.cell? ⟨w.heap.size + 1 + 1 + 1, 2, none⟩ = some (.int .u64 p2)
  c3 : wr.cell? ⟨w.heap.size + 1 + 1 + 1, 3, none⟩ = some (.int .u64 p3)
theorem Pr.keep {w w1 w2 : World} {p0 p1 p2 p3 bh bl : Int} (h : Pr w w1 p0 p1 p2 p3 bh bl) (hu : Up w1 w2) : Pr w w2 p0 p1 p2 p3 bh bl :=
  ⟨h.up.trans hu, hu.keep _ _ _ h.b0, hu.keep _ _ _ h.b1, hu.keep _ _ _ h.r0, hu.keep _ _ _ h.r1, hu.keep _ _ _ h.r2, hu.keep _ _ _ h.r3, hu.keep _ _ _ h.c0, hu.keep _ _ _ h.c1, hu.keep _ _ _ h.c2, hu.keep _ _ _ h.c3⟩
end Go.Proofs.Ytchikndofpkjmaa
