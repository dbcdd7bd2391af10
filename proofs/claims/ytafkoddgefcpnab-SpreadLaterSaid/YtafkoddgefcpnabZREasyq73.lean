/- Texts of these claims, one after the other. -/
import Derived.Test.YtafkoddgefcpnabRows
import Derived.Test.YtafkoddgefcpnabZRRedq72
namespace Go.Proofs.Ytafkoddgefcpnab
open Go.RowKit

def cmpR (n d m c : Int) : Int := if (validB n d && validB m c) = true then crossZ n c m d else 0

theorem comparer_up (n d m c : Int) (hn : In n) (hd : In d) (hm : In m) (hc : In c) (w : World) :
    Calls Try.prog 39 #[.agg #[.int .i64 n, .int .i64 d], .agg #[.int .i64 m, .int .i64 c]] w fun e w' => e = .returned (.int .i64 (cmpR n d m c)) ∧ Up w w' := by
  have HV := Lib.hid (fun W => bothValid_up n d m c hn hd hm hc W)
  have HC := Lib.hid (fun W => cross_up n c m d hn hc hm hd W)
  have HR := Lib.hid (show cmpR n d m c = if (validB n d && validB m c) = true then crossZ n c m d else 0 from rfl)
  generalize cmpR n d m c = r at *
  generalize crossZ n c m d = q at *
  generalize (validB n d && validB m c) = v at *
  clear hn hd hm hc
  cases v
  · go_enter Try.func39, Try.ntmps39
    go_wp2_with fail
    refine (HV.out _).mono ?_
    rintro e w1 ⟨rfl, hu1⟩
    try unfold got2
    have c1_0 := hu1.keep (w.heap.size) (0) (.int .i64 n) (by simp [go_sem, *])
    have c1_1 := hu1.keep (w.heap.size) (1) (.int .i64 d) (by simp [go_sem, *])
    have c1_2 := hu1.keep (w.heap.size + 1) (0) (.int .i64 m) (by simp [go_sem, *])
    have c1_3 := hu1.keep (w.heap.size + 1) (1) (.int .i64 c) (by simp [go_sem, *])
    have l1_0 : w.heap.size < w1.heap.size := World.block_lt_of_cell? _ _ c1_0
    have m1_0 : w.heap.size < w1.heap.size + 1 := by omega
    have n1_0 : w.heap.size < w1.heap.size + 1 + 1 := by omega
    have x1_0 : ¬ w1.heap.size = w.heap.size := by omega
    have y1_0 : ¬ w1.heap.size + 1 = w.heap.size := by omega
    have l1_1 : w.heap.size + 1 < w1.heap.size := World.block_lt_of_cell? _ _ c1_2
    have m1_1 : w.heap.size + 1 < w1.heap.size + 1 := by omega
    have n1_1 : w.heap.size + 1 < w1.heap.size + 1 + 1 := by omega
    have x1_1 : ¬ w1.heap.size = w.heap.size + 1 := by omega
    have y1_1 : ¬ w1.heap.size + 1 = w.heap.size + 1 := by omega
    have HU1 : Hid (Up w w1) := Lib.hid (by ((repeat (first | (with_reducible exact Up.refl _) | (with_reducible refine Up.trans ?_ hu1) | (with_reducible refine Up.alloc ?_ _ _) | (with_reducible refine Up.setCell ?_ ?_ _) | (with_reducible refine Up.drewN ?_ _) | (with_reducible refine Up.drew ?_))); all_goals (first | (simp; done) | (simp; omega) | omega)))
    clear hu1
    go_wp2_with fail
    go_ret
    exact ⟨by rw [HR.out]; rfl, HU1.out⟩
  · go_enter Try.func39, Try.ntmps39
    go_wp2_with fail
    refine (HV.out _).mono ?_
    rintro e w1 ⟨rfl, hu1⟩
    try unfold got2
    have c1_0 := hu1.keep (w.heap.size) (0) (.int .i64 n) (by simp [go_sem, *])
    have c1_1 := hu1.keep (w.heap.size) (1) (.int .i64 d) (by simp [go_sem, *])
    have c1_2 := hu1.keep (w.heap.size + 1) (0) (.int .i64 m) (by simp [go_sem, *])
    have c1_3 := hu1.keep (w.heap.size + 1) (1) (.int .i64 c) (by simp [go_sem, *])
    have l1_0 : w.heap.size < w1.heap.size := World.block_lt_of_cell? _ _ c1_0
    have m1_0 : w.heap.size < w1.heap.size + 1 := by omega
    have n1_0 : w.heap.size < w1.heap.size + 1 + 1 := by omega
    have x1_0 : ¬ w1.heap.size = w.heap.size := by omega
    have y1_0 : ¬ w1.heap.size + 1 = w.heap.size := by omega
    have l1_1 : w.heap.size + 1 < w1.heap.size := World.block_lt_of_cell? _ _ c1_2
    have m1_1 : w.heap.size + 1 < w1.heap.size + 1 := by omega
    have n1_1 : w.heap.size + 1 < w1.heap.size + 1 + 1 := by omega
    have x1_1 : ¬ w1.heap.size = w.heap.size + 1 := by omega
    have y1_1 : ¬ w1.heap.size + 1 = w.heap.size + 1 := by omega
    have HU1 : Hid (Up w w1) := Lib.hid (by ((repeat (first | (with_reducible exact Up.refl _) | (with_reducible refine Up.trans ?_ hu1) | (with_reducible refine Up.alloc ?_ _ _) | (with_reducible refine Up.setCell ?_ ?_ _) | (with_reducible refine Up.drewN ?_ _) | (with_reducible refine Up.drew ?_))); all_goals (first | (simp; done) | (simp; omega) | omega)))
    clear hu1
    go_wp2_with fail
    refine (HC.out _).mono ?_
    rintro e w2 ⟨rfl, hu2⟩
    try unfold got2
    have HU2 : Hid (Up w w2) := Lib.hid (by ((repeat (first | (with_reducible exact Up.refl _) | (with_reducible exact HU1.out) | (with_reducible refine Up.trans ?_ hu2) | (with_reducible refine Up.alloc ?_ _ _) | (with_reducible refine Up.setCell ?_ ?_ _) | (with_reducible refine Up.drewN ?_ _) | (with_reducible refine Up.drew ?_))); all_goals (first | (simp; done) | (simp; omega) | omega)))
    clear hu2 c1_0 c1_1 c1_2 c1_3
    go_wp2_with fail
    go_ret
    exact ⟨by rw [HR.out]; rfl, HU2.out⟩

end Go.Proofs.Ytafkoddgefcpnab

namespace Go.Proofs.Ytafkoddgefcpnab
open Go.RowKit

/-- n times the sum of the squared deviations: n Q - S S. -/
def dvZ (L : List It) : Int := (L.length : Int) * sqZ L - smZ L * smZ L
/-- The sum of the squared differences of the last value and all before it, and of all pairs. -/
def rowZ (v : Int) (L : List It) : Int := (L.map (fun x => (v - x.2) * (v - x.2))).sum
theorem rowZ_form (v : Int) (L : List It) : rowZ v L = (L.length : Int) * (v * v) - 2 * v * smZ L + sqZ L := by
  induction L with
  | nil => simp [rowZ, smZ, sqZ]
  | cons x L ih =>
    simp only [rowZ, smZ, sqZ, List.map_cons, List.sum_cons, List.length_cons] at *
    rw [ih]
    have e1 : (v - x.2) * (v - x.2) = v * v - 2 * v * x.2 + x.2 * x.2 := by
      rw [Int.sub_mul, Int.mul_sub, Int.mul_sub, Int.mul_comm x.2 v, Int.mul_assoc 2 v x.2]; omega
    have e2 : ((L.length + 1 : Nat) : Int) * (v * v) = (L.length : Int) * (v * v) + v * v := by rw [Int.natCast_add, Int.add_mul]; simp
    have e3 : 2 * v * (x.2 + (L.map (fun x => x.2)).sum) = 2 * v * x.2 + 2 * v * (L.map (fun x => x.2)).sum := Int.mul_add _ _ _
    rw [e1, e2, e3]
    omega
theorem rowZ_nonneg (v : Int) (L : List It) : 0 ≤ rowZ v L := by
  induction L with
  | nil => simp [rowZ]
  | cons x L ih =>
    have : 0 ≤ (v - x.2) * (v - x.2) := by rw [← sq_abs]; exact Int.mul_nonneg (by omega) (by omega)
    simp only [rowZ, List.map_cons, List.sum_cons] at *
    omega
theorem dvZ_next (L : List It) (x : It) : dvZ (L ++ [x]) = dvZ L + rowZ x.2 L := by
  rw [rowZ_form]
  unfold dvZ
  have e1 : sqZ (L ++ [x]) = sqZ L + x.2 * x.2 := by simp [sqZ]
  have e2 : smZ (L ++ [x]) = smZ L + x.2 := by simp [smZ]
  rw [e1, e2, List.length_append]
  have e3 : ((L.length + [x].length : Nat) : Int) = (L.length : Int) + 1 := by simp
  rw [e3]
  generalize (L.length : Int) = n
  generalize sqZ L = Q
  generalize smZ L = S
  generalize x.2 = v
  simp only [Int.add_mul, Int.mul_add, Int.one_mul]
  rw [Int.mul_assoc 2 v S, Int.mul_comm v S]
  omega
theorem dvZ_nil : dvZ [] = 0 := by simp [dvZ, sqZ, smZ]
theorem dvZ_nonneg (L : List It) : 0 ≤ dvZ L := by
  have : ∀ k, k ≤ L.length → 0 ≤ dvZ (L.take k) := by
    intro k
    induction k with
    | zero => intro _; rw [List.take_zero, dvZ_nil]; exact Int.le_refl _
    | succ k ih =>
      intro hk
      rw [take_next (by omega), dvZ_next]
      have := ih (by omega)
      have := rowZ_nonneg (L.getD k (0, 0)).2 (L.take k)
      omega
  have h := this L.length (Nat.le_refl _)
  rwa [List.take_of_length_le (Nat.le_refl _)] at h
/-- What the walk of Spread holds: the words of s in block a. -/
structure Spc (w wr : World) (a : Nat) (s : Int) : Prop where
  up : Up w wr
  s0 : wr.cell? ⟨a, 0, none⟩ = some (.int .u64 (dg3 s 0))
  s1 : wr.cell? ⟨a, 1, none⟩ = some (.int .u64 (dg3 s 1))
  s2 : wr.cell? ⟨a, 2, none⟩ = some (.int .u64 (dg3 s 2))
theorem Spc.keep {w w1 w2 : World} {a : Nat} {s : Int} (h : Spc w w1 a s) (hu : Up w1 w2) : Spc w w2 a s := ⟨h.up.trans hu, hu.keep _ _ _ h.s0, hu.keep _ _ _ h.s1, hu.keep _ _ _ h.s2⟩
/-- What Spread returns. -/
def sprN (L : List It) : Int := if L = [] then 0 else quoN (dvZ L) L.length
def sprD (L : List It) : Int := if L = [] then 1 else quoD (dvZ L) L.length
def sprB (L : List It) : Bool := if L = [] then true else quoB (dvZ L) L.length
end Go.Proofs.Ytafkoddgefcpnab

namespace Go.Proofs.Ytafkoddgefcpnab

theorem sgn_mul (a b : Int) : cmpZ a 0 * cmpZ b 0 = cmpZ (a * b) 0 := by
  rcases (by omega : a < 0 ∨ a = 0 ∨ 0 < a) with ha | ha | ha <;> rcases (by omega : b < 0 ∨ b = 0 ∨ 0 < b) with hb | hb | hb
  · rw [cmpZ_lt ha, cmpZ_lt hb, cmpZ_gt (Int.mul_pos_of_neg_of_neg ha hb)]; rfl
  · subst hb; rw [Int.mul_zero, cmpZ_eq (x := 0) rfl, Int.mul_zero]
  · rw [cmpZ_lt ha, cmpZ_gt hb, cmpZ_lt (Int.mul_neg_of_neg_of_pos ha hb)]; rfl
  · subst ha; rw [Int.zero_mul, cmpZ_eq (x := 0) rfl, Int.zero_mul]
  · subst ha; rw [Int.zero_mul, cmpZ_eq (x := 0) rfl, Int.zero_mul]
  · subst ha; rw [Int.zero_mul, cmpZ_eq (x := 0) rfl, Int.zero_mul]
  · rw [cmpZ_gt ha, cmpZ_lt hb, cmpZ_lt (Int.mul_neg_of_pos_of_neg ha hb)]; rfl
  · subst hb; rw [Int.mul_zero, cmpZ_eq (x := 0) rfl, Int.mul_zero]
  · rw [cmpZ_gt ha, cmpZ_gt hb, cmpZ_gt (Int.mul_pos ha hb)]; rfl
theorem cross_is (p q : Int) : (if cmpZ p 0 = cmpZ q 0 then cmpZ p 0 * cmpZ (p.natAbs : Int) (q.natAbs : Int) else cmpZ (cmpZ p 0) (cmpZ q 0)) = cmpZ p q := by
  rcases (by omega : p < 0 ∨ p = 0 ∨ 0 < p) with hp | hp | hp <;> rcases (by omega : q < 0 ∨ q = 0 ∨ 0 < q) with hq | hq | hq
  · rw [cmpZ_lt hp, cmpZ_lt hq, if_pos rfl]
    unfold cmpZ; (repeat' split) <;> omega
  · rw [cmpZ_lt hp, cmpZ_eq hq, if_neg (by decide), cmpZ_lt (x := p) (y := q) (by omega)]; rfl
  · rw [cmpZ_lt hp, cmpZ_gt hq, if_neg (by decide), cmpZ_lt (x := p) (y := q) (by omega)]; rfl
  · rw [cmpZ_eq hp, cmpZ_lt hq, if_neg (by decide), cmpZ_gt (x := p) (y := q) (by omega)]; rfl
  · rw [cmpZ_eq hp, cmpZ_eq hq, if_pos rfl, cmpZ_eq (x := p) (y := q) (by omega)]; omega
  · rw [cmpZ_eq hp, cmpZ_gt hq, if_neg (by decide), cmpZ_lt (x := p) (y := q) (by omega)]; rfl
  · rw [cmpZ_gt hp, cmpZ_lt hq, if_neg (by decide), cmpZ_gt (x := p) (y := q) (by omega)]; rfl
  · rw [cmpZ_gt hp, cmpZ_eq hq, if_neg (by decide), cmpZ_gt (x := p) (y := q) (by omega)]; rfl
  · rw [cmpZ_gt hp, cmpZ_gt hq, if_pos rfl]
    unfold cmpZ; (repeat' split) <;> omega
/-- The comparison of two products is what it says. -/
theorem crossZ_eq (a b c d : Int) : crossZ a b c d = cmpZ (a * b) (c * d) := by
  unfold crossZ
  rw [sgn_mul, sgn_mul, ← cross_is (a * b) (c * d), Int.natAbs_mul, Int.natAbs_mul, Int.natCast_mul, Int.natCast_mul]
theorem cmpZ_le {x y : Int} : cmpZ x y ≤ 0 ↔ x ≤ y := by unfold cmpZ; (repeat' split) <;> omega

end Go.Proofs.Ytafkoddgefcpnab
