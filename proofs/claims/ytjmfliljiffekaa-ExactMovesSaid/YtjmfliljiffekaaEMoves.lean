/- What Value of the verifier's package made returns, and how the spread moves. -/
import Derived.Test.YtjmfliljiffekaaERow
import Derived.Test.YtjmfliljiffekaaESpread
import Derived.Test.YtjmfliljiffekaaGMod
import Derived.Test.YtjmfliljiffekaaRBetw
import Derived.Test.YtjmfliljiffekaaREasy
namespace Go.Proofs.Ytjmfliljiffekaa
open Go.RowKit

/-- A made value. -/
def valM (a : Int) : Int := if a % 8 = 0 then a.tdiv 8 % 8193 - 4096 else if a % 8 = 1 then 4096 * (2 * (a.tdiv 8 % 2) - 1) else a.tdiv 8 % 13 - 6
theorem valM_in (a : Int) : -4096 ≤ valM a ∧ valM a ≤ 4096 := by
  unfold valM
  split
  · omega
  · split <;> omega
set_option maxRecDepth 100000 in
theorem value_any (a : Int) (ha : In a) (w : World) :
    Calls Try.prog 29 #[.int .i64 a] w fun e w' => e = .returned (.int .i64 (valM a)) ∧ w = w' := by
  have K8 := Lib.hid (fun W => modm_any a 8 (by omega) (by omega) W)
  have K1 := Lib.hid (fun W => modm_any (a.tdiv 8) 8193 (by omega) (by omega) W)
  have K2 := Lib.hid (fun W => modm_any (a.tdiv 8) 2 (by omega) (by omega) W)
  have K3 := Lib.hid (fun W => modm_any (a.tdiv 8) 13 (by omega) (by omega) W)
  have hb : IntKind.i64.wrap (a.tdiv 8) = a.tdiv 8 := IntWalk.i64_in _ (by
    unfold In at ha
    rcases Int.le_total 0 a with h | h
    · rw [Int.tdiv_eq_ediv_of_nonneg h]; omega
    · have e : a.tdiv 8 = -((-a) / 8) := by rw [← Int.tdiv_eq_ediv_of_nonneg (by omega : 0 ≤ -a), Int.neg_tdiv, Int.neg_neg]
      rw [e]; omega)
  have h8 : 0 ≤ a % 8 ∧ a % 8 < 8 := by omega
  unfold valM
  by_cases h0 : a % 8 = 0
  · rw [if_pos h0]
    rw [h0] at K8
    have r : 0 ≤ a.tdiv 8 % 8193 ∧ a.tdiv 8 % 8193 < 8193 := by omega
    generalize a.tdiv 8 % 8193 = x at *
    clear h0 h8 ha
    go_enter Try.func29, Try.ntmps29
    go_wp2_with fail
    refine (K8.out _).mono ?_
    rintro e w' ⟨rfl, rfl⟩
    go_wp2_with fail
    refine (K1.out _).mono ?_
    rintro e w' ⟨rfl, rfl⟩
    go_wp2_with fail
    go_ret
    exact ⟨rfl, rfl⟩
  · rw [if_neg h0]
    have t0 : (a % 8 == 0) = false := by simp [h0]
    by_cases h1 : a % 8 = 1
    · rw [if_pos h1]
      rw [h1] at K8
      have r : 0 ≤ a.tdiv 8 % 2 ∧ a.tdiv 8 % 2 < 2 := by omega
      generalize a.tdiv 8 % 2 = x at *
      clear h0 h1 h8 ha t0
      go_enter Try.func29, Try.ntmps29
      go_wp2_with fail
      refine (K8.out _).mono ?_
      rintro e w' ⟨rfl, rfl⟩
      go_wp2_with fail
      refine (K2.out _).mono ?_
      rintro e w' ⟨rfl, rfl⟩
      go_wp2_with fail
      go_ret
      exact ⟨rfl, rfl⟩
    · rw [if_neg h1]
      have t1 : (a % 8 == 1) = false := by simp [h1]
      have r : 0 ≤ a.tdiv 8 % 13 ∧ a.tdiv 8 % 13 < 13 := by omega
      generalize a.tdiv 8 % 13 = x at *
      clear h0 h1 h8 ha
      go_enter Try.func29, Try.ntmps29
      go_wp2_with fail
      refine (K8.out _).mono ?_
      rintro e w' ⟨rfl, rfl⟩
      go_wp2_with fail
      refine (K3.out _).mono ?_
      rintro e w' ⟨rfl, rfl⟩
      go_wp2_with fail
      go_ret
      exact ⟨rfl, rfl⟩

/-- The items that the law plays. -/
def mkA (L : List It) : List It := L.map (fun x => (0, valM x.2))
def mkB (c : Int) (L : List It) : List It := L.map (fun x => (0, valM x.2 + c))
theorem mkA_next {L : List It} {i : Nat} (hi : i < L.length) : mkA (L.take (i + 1)) = mkA (L.take i) ++ [(0, valM (L.getD i (0, 0)).2)] := by rw [take_next hi]; simp [mkA]
theorem mkB_next {L : List It} {i : Nat} (hi : i < L.length) (c : Int) : mkB c (L.take (i + 1)) = mkB c (L.take i) ++ [(0, valM (L.getD i (0, 0)).2 + c)] := by rw [take_next hi]; simp [mkB]
theorem rowZ_move (v c : Int) (L : List It) : rowZ (v + c) (mkB c L) = rowZ v (mkA L) := by
  induction L with
  | nil => rfl
  | cons x L ih =>
    simp only [rowZ, mkA, mkB, List.map_cons, List.sum_cons] at *
    rw [ih, show v + c - (valM x.2 + c) = v - valM x.2 by omega]
theorem dvZ_move (c : Int) (L : List It) : dvZ (mkB c L) = dvZ (mkA L) := by
  have : ∀ k, k ≤ L.length → dvZ (mkB c (L.take k)) = dvZ (mkA (L.take k)) := by
    intro k
    induction k with
    | zero => intro _; rfl
    | succ k ih =>
      intro hk
      rw [mkA_next (by omega), mkB_next (by omega), dvZ_next, dvZ_next, ih (by omega), rowZ_move]
  have h := this L.length (Nat.le_refl _)
  rwa [List.take_of_length_le (Nat.le_refl _)] at h
theorem spr_move (c : Int) (L : List It) : sprN (mkB c L) = sprN (mkA L) ∧ sprD (mkB c L) = sprD (mkA L) ∧ sprB (mkB c L) = sprB (mkA L) := by
  have e : (mkB c L = []) ↔ (mkA L = []) := by simp [mkA, mkB]
  have el : (mkB c L).length = (mkA L).length := by simp [mkA, mkB]
  unfold sprN sprD sprB
  rw [dvZ_move, el]
  by_cases h : mkA L = []
  · rw [if_pos h, if_pos h, if_pos h, if_pos (e.2 h), if_pos (e.2 h), if_pos (e.2 h)]; exact ⟨rfl, rfl, rfl⟩
  · rw [if_neg h, if_neg h, if_neg h, if_neg (fun k => h (e.1 k)), if_neg (fun k => h (e.1 k)), if_neg (fun k => h (e.1 k))]; exact ⟨rfl, rfl, rfl⟩
/-- n times the sum of the squared differences to v is at least n Q - S S. -/
theorem row_dv (v : Int) (L : List It) : dvZ L ≤ (L.length : Int) * rowZ v L := by
  rw [rowZ_form]
  unfold dvZ
  generalize (L.length : Int) = n
  generalize sqZ L = Q
  generalize smZ L = S
  have h : 0 ≤ (n * v - S) * (n * v - S) := by rw [← sq_abs]; exact Int.mul_nonneg (by omega) (by omega)
  have e : (n * v - S) * (n * v - S) = n * (n * (v * v)) - 2 * (n * (v * S)) + S * S := by
    rw [Int.sub_mul, Int.mul_sub, Int.mul_sub]
    have a1 : n * v * (n * v) = n * (n * (v * v)) := by rw [Int.mul_assoc, ← Int.mul_assoc v n v, Int.mul_comm v n, Int.mul_assoc]
    have a2 : n * v * S = n * (v * S) := Int.mul_assoc _ _ _
    have a3 : S * (n * v) = n * (v * S) := by rw [Int.mul_comm, Int.mul_assoc]
    rw [a1, a2, a3]; omega
  have e2 : n * (n * (v * v) - 2 * v * S + Q) = n * (n * (v * v)) - 2 * (n * (v * S)) + n * Q := by
    rw [Int.mul_add, Int.mul_sub]
    have : n * (2 * v * S) = 2 * (n * (v * S)) := by rw [Int.mul_assoc 2 v S, Int.mul_left_comm]
    rw [this]
  rw [e2]
  omega
/-- Values that are not great. -/
def midV (L : List It) : Prop := ∀ x ∈ L, -10000 ≤ x.2 ∧ x.2 ≤ 10000 ∧ x.1 = 0
theorem midV.inI {L : List It} (h : midV L) : InI L := fun x hx => by have := h x hx; unfold In; omega
theorem midV_A (L : List It) : midV (mkA L) := fun x hx => by
  obtain ⟨y, _, rfl⟩ := List.mem_map.1 hx
  have := valM_in y.2
  exact ⟨by show -10000 ≤ valM y.2; omega, by show valM y.2 ≤ 10000; omega, rfl⟩
theorem midV_B {c : Int} (h0 : 0 ≤ c) (h1 : c < 1000) (L : List It) : midV (mkB c L) := fun x hx => by
  obtain ⟨y, _, rfl⟩ := List.mem_map.1 hx
  have := valM_in y.2
  exact ⟨by show -10000 ≤ valM y.2 + c; omega, by show valM y.2 + c ≤ 10000; omega, rfl⟩
theorem sqZ_mid {L : List It} (h : midV L) : sqZ L ≤ L.length * 100000000 := by
  induction L with
  | nil => simp [sqZ]
  | cons x L ih =>
    have h1 := h x (by simp)
    have h2 := ih (fun y hy => h y (by simp [hy]))
    have h3 : x.2 * x.2 ≤ 100000000 := by
      rw [← sq_abs]
      have : (x.2.natAbs : Int) ≤ 10000 := by omega
      have := Int.mul_le_mul this this (by omega) (by omega)
      omega
    simp only [sqZ, List.map_cons, List.sum_cons, List.length_cons] at *
    omega
theorem dvZ_mid {L : List It} (h : midV L) (hl : L.length ≤ 1000) : dvZ L ≤ 100000000000000 := by
  have h1 := sqZ_mid h
  have h0 := sqZ_nonneg L
  have h2 : 0 ≤ smZ L * smZ L := by rw [← sq_abs]; exact Int.mul_nonneg (by omega) (by omega)
  have h3 : (L.length : Int) * sqZ L ≤ 1000 * (1000 * 100000000) := Int.mul_le_mul (by omega) (by omega) h0 (by omega)
  unfold dvZ
  omega
theorem spr_yes {L : List It} (h : midV L) (hl : L.length ≤ 1000) : sprB L = true ∧ In (sprN L) ∧ In (sprD L) ∧ validB (sprN L) (sprD L) = true ∧ sprN L * (max (L.length : Int) 1) = dvZ L * sprD L := by
  unfold sprB sprN sprD
  by_cases he : L = []
  · rw [if_pos he, if_pos he, if_pos he, he, dvZ_nil]; exact ⟨rfl, by unfold In; omega, by unfold In; omega, by decide, by simp⟩
  · rw [if_neg he, if_neg he, if_neg he]
    have hp : 0 < L.length := List.length_pos_iff.2 he
    have hd := dvZ_mid h hl
    obtain ⟨g1, g2, eb, _, _⟩ := quo_form (dvZ_nonneg L) (show 1 ≤ (L.length : Int) by omega) (by omega)
    obtain ⟨q0, q1⟩ := div_small (dvZ_nonneg L) g1
    have hB : quoB (dvZ L) L.length = true := by rw [eb]; exact decide_eq_true ⟨by omega, by omega⟩
    obtain ⟨_, i1, i2, i3, i4⟩ := quo_yes hB
    refine ⟨hB, i1, i2, i3, ?_⟩
    rw [show max (L.length : Int) 1 = (L.length : Int) by omega]
    exact i4
theorem spr_grows {L : List It} {m : Int} (h : midV L) (hm : midV (L ++ [(0, m)])) (hl : L.length ≤ 100) : cmpR (sprN L) (sprD L) (sprN (L ++ [(0, m)])) (sprD (L ++ [(0, m)])) ≤ 0 := by
  obtain ⟨_, _, _, v1, e1⟩ := spr_yes h (by omega)
  obtain ⟨_, _, _, v2, e2⟩ := spr_yes hm (by simp; omega)
  have ec : cmpR (sprN L) (sprD L) (sprN (L ++ [(0, m)])) (sprD (L ++ [(0, m)])) = cmpZ (sprN L * sprD (L ++ [(0, m)])) (sprN (L ++ [(0, m)]) * sprD L) := by unfold cmpR; rw [v1, v2, crossZ_eq]; rfl
  rw [ec, cmpZ_le]
  clear ec
  have d1 := (validB_of v1).1
  have d2 := (validB_of v2).1
  have hD := dvZ_next L (0, m)
  have hR := row_dv m L
  have h0 := dvZ_nonneg L
  have hr0 := rowZ_nonneg m L
  rw [List.length_append] at e2
  have en : max (((L.length + [((0 : Int), m)].length : Nat) : Int)) 1 = (L.length : Int) + 1 := by simp; omega
  rw [en] at e2
  rw [hD] at e2
  simp only at e2
  generalize sprN L = N1 at *
  generalize sprD L = D1 at *
  generalize sprN (L ++ [(0, m)]) = N2 at *
  generalize sprD (L ++ [(0, m)]) = D2 at *
  by_cases hn : L.length = 0
  · have hL : L = [] := List.length_eq_zero_iff.1 hn
    subst hL
    simp only [dvZ_nil, List.length_nil, rowZ, List.map_nil, List.sum_nil, Int.add_zero, Int.zero_mul] at e1 e2
    have a1 : N1 = 0 := by
      have hm : max ((0 : Nat) : Int) 1 = 1 := by decide
      rw [hm] at e1; omega
    have a2 : N2 = 0 := by simpa using e2
    rw [a1, a2]; omega
  · have hp : (1 : Int) ≤ (L.length : Int) := by omega
    rw [show max (L.length : Int) 1 = (L.length : Int) by omega] at e1
    generalize (L.length : Int) = n at *
    generalize dvZ L = D at *
    generalize rowZ m L = R at *
    -- N1 n = D D1, N2 (n + 1) = (D + R) D2, D ≤ n R
    have k1 : D * (n + 1) ≤ (D + R) * n := by rw [Int.mul_add, Int.add_mul, Int.mul_comm R n]; omega
    have k2 : D * (n + 1) * (D1 * D2) ≤ (D + R) * n * (D1 * D2) := Int.mul_le_mul_of_nonneg_right k1 (Int.mul_nonneg (by omega) (by omega))
    have k3 : N1 * D2 * (n * (n + 1)) = D * (n + 1) * (D1 * D2) := by
      have : N1 * D2 * (n * (n + 1)) = (N1 * n) * ((n + 1) * D2) := by ac_rfl
      rw [this, e1]; ac_rfl
    have k4 : N2 * D1 * (n * (n + 1)) = (D + R) * n * (D1 * D2) := by
      have : N2 * D1 * (n * (n + 1)) = (N2 * (n + 1)) * (n * D1) := by ac_rfl
      rw [this, e2]; ac_rfl
    rw [← k3, ← k4] at k2
    exact Int.le_of_mul_le_mul_right k2 (Int.mul_pos (by omega) (by omega))
end Go.Proofs.Ytjmfliljiffekaa
