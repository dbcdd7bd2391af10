/- Smooth histograms of played items: few marks, the truth as the laws count it. No program is named here. -/
import Derived.Test.YtafkoddgefcpnabRows
import Derived.Test.YtafkoddgefcpnabZERankq53
import Derived.Test.YtafkoddgefcpnabZIBaseq48
namespace Go.Proofs.Ytafkoddgefcpnab

theorem bitsZ_lt : ∀ (m : Nat) (n : Int), n.toNat ≤ m → 0 ≤ n → n < ((2 ^ (bitsZ n).toNat : Nat) : Int) := by
  intro m
  induction m with
  | zero => intro n h h0; obtain rfl : n = 0 := by omega
            decide
  | succ m ih =>
    intro n h h0
    rcases Int.lt_or_le 0 n with hp | hp
    · have h1 := ih (n / 2) (by omega) (by omega)
      have h2 := (bitsZ_bound (n / 2)).1
      rw [bitsZ_step n hp, show (bitsZ (n / 2) + 1).toNat = (bitsZ (n / 2)).toNat + 1 by omega, Nat.pow_succ]
      generalize 2 ^ (bitsZ (n / 2)).toNat = y at *
      omega
    · obtain rfl : n = 0 := by omega
      decide
theorem topG_nn {g c : Int} (hc : 1 ≤ c) : 0 ≤ topG g c := by
  unfold topG
  repeat' split
  all_goals omega
/-- No more marks than Most says. -/
theorem Sv.few {g w k c now : Int} {P : List Nat} {I : List It} (h : Sv g w k c now P I) (hk : 1 ≤ k ∧ k ≤ 64) (hc : 1 ≤ c ∧ c ≤ 65536) : (P.length : Int) ≤ mostZ g k c := by
  have e : mostZ g k c = 2 * k * bitsZ (topG g c) + 2 := if_pos ⟨decide_eq_true h.g1, hk, hc⟩
  have h1 := few_ch3 (f := agP g I) (k := k.toNat) (by omega) (bitsZ (topG g c)).toNat P (by
    rw [show ((k.toNat : Nat) : Int) = k by omega]; exact h.far) (fun p _ => agP_nn h.g1 h.vals p) (fun a ha => by
      have h2 : agP g I a ≤ topG g c := ag_top h.g1 (vlF_val h.vals a) (by have := h.cap a ha; rw [vlF_len]; omega)
      exact Int.lt_of_le_of_lt h2 (bitsZ_lt _ _ (Nat.le_refl _) (topG_nn hc.1)))
  have h3 := (bitsZ_bound (topG g c)).1
  rw [e]
  generalize bitsZ (topG g c) = y at *
  have h4 : (2 * k.toNat * y.toNat : Nat) = (2 * k.toNat * y.toNat : Nat) := rfl
  have h5 : ((2 * k.toNat * y.toNat + 2 : Nat) : Int) = 2 * k * y + 2 := by
    rw [Int.natCast_add, Int.natCast_mul, Int.natCast_mul, show ((k.toNat : Nat) : Int) = k by omega, show ((y.toNat : Nat) : Int) = y by omega]; rfl
  omega
theorem leZ_mn : ∀ (L : List It) (x : Int), leZ x L = mnL (x :: L.map (fun y => y.2)) := by
  intro L
  induction L with
  | nil => intro x; rfl
  | cons a L ih =>
    intro x
    show leZ (min x a.2) L = _
    rw [ih]
    cases L with
    | nil => rfl
    | cons b L =>
      simp only [List.map_cons]
      rw [mnL_cons x (by simp), mnL_cons a.2 (by simp), mnL_cons (min x a.2) (by simp)]
      omega
theorem grZ_mx : ∀ (L : List It) (x : Int), grZ x L = mxL (x :: L.map (fun y => y.2)) := by
  intro L
  induction L with
  | nil => intro x; rfl
  | cons a L ih =>
    intro x
    show grZ (max x a.2) L = _
    rw [ih]
    cases L with
    | nil => rfl
    | cons b L =>
      simp only [List.map_cons]
      rw [mxL_cons x (by simp), mxL_cons a.2 (by simp), mxL_cons (max x a.2) (by simp)]
      omega
theorem leZ_list {L : List It} (h : L ≠ []) : leZ (L.getD 0 (0, 0)).2 L = mnL (L.map (fun y => y.2)) := by
  cases L with
  | nil => exact absurd rfl h
  | cons a L =>
    show leZ (min a.2 a.2) L = mnL (a.2 :: L.map (fun y => y.2))
    rw [show min a.2 a.2 = a.2 by omega, leZ_mn]
theorem grZ_list {L : List It} (h : L ≠ []) : grZ (L.getD 0 (0, 0)).2 L = mxL (L.map (fun y => y.2)) := by
  cases L with
  | nil => exact absurd rfl h
  | cons a L =>
    show grZ (max a.2 a.2) L = mxL (a.2 :: L.map (fun y => y.2))
    rw [show max a.2 a.2 = a.2 by omega, grZ_mx]
theorem tr_bd {M : List It} (h : ∀ x ∈ M, -4096 ≤ x.2 ∧ x.2 ≤ 4096) (i : Nat) : (((M.take i).map (fun x => x.2)).length : Int) ≤ M.length ∧ (-4096 * (M.length : Int) ≤ suL ((M.take i).map (fun x => x.2)) ∧ suL ((M.take i).map (fun x => x.2)) ≤ 4096 * (M.length : Int)) ∧ 0 ≤ sqL ((M.take i).map (fun x => x.2)) ∧ sqL ((M.take i).map (fun x => x.2)) ≤ 16777216 * (M.length : Int) := by
  have hb : ∀ x ∈ (M.take i).map (fun x => x.2), -4096 ≤ x ∧ x ≤ 4096 := fun x hx => by
    obtain ⟨y, hy, rfl⟩ := List.mem_map.1 hx
    exact h y (List.mem_of_mem_take hy)
  have hl : (((M.take i).map (fun x => x.2)).length : Int) ≤ M.length := by
    rw [List.length_map, List.length_take]; omega
  have h1 := suL_ge (fun x hx => (hb x hx).1)
  have h2 := suL_le (fun x hx => (hb x hx).2)
  have h3 := sqL_le (A := (M.take i).map (fun x => x.2)) (m := 4096) (fun x hx => hb x hx)
  have h4 := sqL_nn ((M.take i).map (fun x => x.2))
  exact ⟨hl, ⟨by omega, by omega⟩, h4, by omega⟩
end Go.Proofs.Ytafkoddgefcpnab
