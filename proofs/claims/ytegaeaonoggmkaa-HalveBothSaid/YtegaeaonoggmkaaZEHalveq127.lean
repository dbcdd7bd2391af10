/- Texts of these claims, one after the other. -/
import Derived.Test.YtegaeaonoggmkaaRows
import Derived.Test.YtegaeaonoggmkaaZESumq41
import Derived.Test.YtegaeaonoggmkaaZSLeftq102
namespace Go.Proofs.Ytegaeaonoggmkaa
open Go.RowKit

/-- The term of an item: its value times a power of two, nothing if it is too old. -/
def hvP (now : Int) (x : It) : Bool := decide (0 ≤ x.1 ∧ x.1 ≤ now ∧ 0 ≤ x.2)
def hvB (now a : Int) (x : It) : Bool := hvP now x && (decide (a ≤ now - x.1) || leftB x.2 (a - 1 - (now - x.1)))
def hvF (now a : Int) (x : It) : Int := if (hvP now x && decide (now - x.1 < a)) = true then leftV x.2 (a - 1 - (now - x.1)) else 0
theorem leftV_in2 (v n : Int) : In2 (leftV v n) := by
  unfold leftV
  by_cases h : leftB v n = true
  · rw [if_pos h]
    unfold leftB at h
    rw [Bool.and_eq_true] at h
    exact (of_decide_eq_true h.2 : _ ∧ _)
  · rw [if_neg h]; exact ⟨by decide, by decide⟩
theorem hvF_in2 (now a : Int) (x : It) : In2 (hvF now a x) := by
  unfold hvF
  split
  · exact leftV_in2 _ _
  · exact ⟨by decide, by decide⟩
theorem hv_no {now a : Int} {x : It} (h : hvP now x = false) : hvB now a x = false ∧ hvF now a x = 0 := by unfold hvB hvF; rw [h]; exact ⟨rfl, rfl⟩
theorem hv_old {now a : Int} {x : It} (h : hvP now x = true) (ha : a ≤ now - x.1) : hvB now a x = true ∧ hvF now a x = 0 := by
  unfold hvB hvF
  rw [h, decide_eq_true ha, decide_eq_false (by omega)]
  exact ⟨rfl, rfl⟩
theorem hv_new {now a : Int} {x : It} (h : hvP now x = true) (ha : now - x.1 < a) : hvB now a x = leftB x.2 (a - 1 - (now - x.1)) ∧ hvF now a x = leftV x.2 (a - 1 - (now - x.1)) := by
  unfold hvB hvF
  rw [h, decide_eq_true ha, decide_eq_false (by omega)]
  exact ⟨rfl, rfl⟩
/-- What Halve returns. -/
def hvO (L : List It) (now a : Int) : Option Int := if (tickB now && decide (1 ≤ a ∧ a ≤ 64)) = true then accO (hvF now a) (hvB now a) 0 L else none
def gotH (o : Option Int) (D : Int) : Ending := match o with
  | none => .returned (.tuple #[.agg #[.int .u64 0, .int .u64 0, .int .u64 0, .int .u64 0], .bool false])
  | some s => .returned (.tuple #[.agg #[.int .u64 (hiZ s), .int .u64 (loZ s), .int .u64 (hiZ D), .int .u64 (loZ D)], .bool true])

/-- What the end of Halve holds. -/
structure Fr (w wr : World) (q : Nat) (s : Int) : Prop where
  up : Up w wr
  r0 : wr.cell? ⟨w.heap.size + 1 + 1, 0, none⟩ = some (.int .u64 0)
  r1 : wr.cell? ⟨w.heap.size + 1 + 1, 1, none⟩ = some (.int .u64 0)
  r2 : wr.cell? ⟨w.heap.size + 1 + 1, 2, none⟩ = some (.int .u64 0)
  r3 : wr.cell? ⟨w.heap.size + 1 + 1, 3, none⟩ = some (.int .u64 0)
  s0 : wr.cell? ⟨q, 0, none⟩ = some (.int .u64 (hiZ s))
  s1 : wr.cell? ⟨q, 1, none⟩ = some (.int .u64 (loZ s))
theorem Fr.keep {w w1 w2 : World} {q : Nat} {s : Int} (h : Fr w w1 q s) (hu : Up w1 w2) : Fr w w2 q s :=
  ⟨h.up.trans hu, hu.keep _ _ _ h.r0, hu.keep _ _ _ h.r1, hu.keep _ _ _ h.r2, hu.keep _ _ _ h.r3, hu.keep _ _ _ h.s0, hu.keep _ _ _ h.s1⟩
theorem Fr.far {w w1 : World} {q b o : Nat} {s : Int} {v : Value} (h : Fr w w1 q s) (hb : w.heap.size + 1 + 1 < b) (hq : b ≠ q) : Fr w (w1.setCell ⟨b, o, none⟩ v) q s :=
  ⟨h.up.setCell (by show w.heap.size ≤ b; omega) _, (cell_far (by show b ≠ _; omega)).trans h.r0, (cell_far (by show b ≠ _; omega)).trans h.r1, (cell_far (by show b ≠ _; omega)).trans h.r2, (cell_far (by show b ≠ _; omega)).trans h.r3, (cell_far hq).trans h.s0, (cell_far hq).trans h.s1⟩
end Go.Proofs.Ytegaeaonoggmkaa

namespace Go.Proofs.Ytegaeaonoggmkaa
open Go.RowKit

/-- The weight of a place of a valid state, and each part of the weighted sum, fit. -/
theorem halve_term {a e : Nat} {s : Int} (ha : a ≤ 64) (h0 : 0 ≤ s) (h1 : s ≤ 1099511627776) : In2 (s * 2 ^ (a - 1 - e)) := by
  obtain ⟨t1, t2⟩ := term_bd (e := e) ha h0 h1
  exact ⟨t1, by omega⟩
theorem acc_halve {now : Int} {a : Nat} (ha : 1 ≤ a ∧ a ≤ 64) : ∀ (B A : List It), okH now (A ++ B) → (A ++ B).length ≤ 1000 → accO (hvF now a) (hvB now a) (sumH now a A) B = some (sumH now a (A ++ B)) := by
  intro B
  induction B with
  | nil => intro A _ _; rw [List.append_nil]; rfl
  | cons x B ih =>
    intro A h hl
    have hx := h x (by simp)
    have e : A ++ x :: B = (A ++ [x]) ++ B := by simp
    rw [e] at h hl ⊢
    have hp : hvP now x = true := decide_eq_true ⟨hx.1, hx.2.1, hx.2.2.1⟩
    have hw : hvB now a x = true ∧ hvF now a x = wtH now a x := by
      by_cases q : now - x.1 < (a : Int)
      · obtain ⟨y1, y2⟩ := hv_new hp q
        have et : ((a : Int) - 1 - (now - x.1)).toNat = a - 1 - (now - x.1).toNat := by omega
        obtain ⟨z1, z2⟩ := leftB_yes (v := x.2) (n := (a : Int) - 1 - (now - x.1)) (by omega) (by rw [et]; exact halve_term ha.2 hx.2.2.1 (by omega))
        rw [y1, y2, z1, z2, et]
        unfold wtH
        rw [if_pos q]
        exact ⟨rfl, rfl⟩
      · obtain ⟨y1, y2⟩ := hv_old hp (show (a : Int) ≤ now - x.1 by omega)
        rw [y1, y2]
        unfold wtH
        rw [if_neg q]
        exact ⟨rfl, rfl⟩
    have em : sumH now a A + hvF now a x = sumH now a (A ++ [x]) := by
      rw [hw.2, sumH_app]
      show _ = _ + (wtH now a x + 0)
      omega
    have hin : In2 (sumH now a (A ++ [x])) := by
      obtain ⟨t1, t2⟩ := sumH_bd ha.2 (fun y hy => h y (List.mem_append_left _ hy))
      rw [List.length_append] at hl
      exact ⟨t1, by omega⟩
    show (if (hvB now a x && fits2 (sumH now a A + hvF now a x)) = true then accO (hvF now a) (hvB now a) (sumH now a A + hvF now a x) B else none) = _
    rw [hw.1, em, fits2_yes hin, if_pos (show (true && true) = true from rfl)]
    exact ih _ h hl
theorem hvO_sum {now : Int} {a : Nat} {M : List It} (ha : 1 ≤ a ∧ a ≤ 64) (hn : 0 ≤ now ∧ now ≤ 16777216) (h : okH now M) (hl : M.length ≤ 1000) : hvO M now a = some (sumH now a M) := by
  unfold hvO
  rw [show tickB now = true from decide_eq_true hn, decide_eq_true (show 1 ≤ (a : Int) ∧ (a : Int) ≤ 64 by omega), if_pos (show (true && true) = true from rfl)]
  exact acc_halve ha M [] h hl
end Go.Proofs.Ytegaeaonoggmkaa
