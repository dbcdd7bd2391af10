/- The value of a rank: rankOf of package exact, Target, Asks and Quantile of the reference, and the mathematics of a sorted list. -/
import Derived.Test.YtflahclphdlolaaZEWords
import Derived.Test.YtflahclphdlolaaZG0a
import Derived.Test.YtflahclphdlolaaZG2a
import Derived.Test.YtflahclphdlolaaZG5a
import Derived.Test.YtflahclphdlolaaZWCmp
import Derived.Test.YtflahclphdlolaaZWGcd
import Derived.Test.YtflahclphdlolaaZWRDiv2
namespace Go.Proofs.Ytflahclphdlolaa
open Go.RowKit

/-- The rank that p / q stands for among n values. -/
def tgZ (p q n : Int) : Int := if p * n % q = 0 then max 1 (p * n / q) else p * n / q + 1
theorem tgZ_in {p q n : Int} (hp : 0 ≤ p) (hpq : p ≤ q) (hq : 1 ≤ q) (hn : 1 ≤ n) : 1 ≤ tgZ p q n ∧ tgZ p q n ≤ n := by
  have h0 : 0 ≤ p * n := Int.mul_nonneg hp (by omega)
  have h1 : p * n ≤ q * n := Int.mul_le_mul_of_nonneg_right hpq (by omega)
  have hd : 0 ≤ p * n / q := Int.ediv_nonneg h0 (by omega)
  have hl : p * n / q ≤ n := by
    have := Int.ediv_le_ediv (show 0 < q by omega) h1
    rwa [Int.mul_comm q n, Int.mul_ediv_cancel _ (show q ≠ 0 by omega)] at this
  unfold tgZ
  split
  · omega
  · rename_i hr
    have hm : 0 < p * n % q := by have := Int.emod_nonneg (p * n) (show q ≠ 0 by omega); omega
    have he := Int.mul_ediv_add_emod (p * n) q
    have : p * n / q < n := by
      by_cases h : p * n / q < n
      · exact h
      · have := Int.mul_le_mul_of_nonneg_left (show n ≤ p * n / q by omega) (show 0 ≤ q by omega)
        omega
    omega
theorem prod_in2 {p n : Int} (hp : 0 ≤ p) (hp' : p ≤ 9223372036854775807) (hn : 0 ≤ n) (hn' : n ≤ 1000000) : In2 (p * n) := by
  have h1 : p * n ≤ 9223372036854775807 * 1000000 := Int.mul_le_mul hp' hn' hn (by omega)
  exact ⟨Int.mul_nonneg hp hn, by omega⟩
theorem wd_zero {v : Int} (_ : In2 v) : (hiZ v = 0 ∧ loZ v = 0) ↔ v = 0 := by unfold hiZ loZ; omega

set_option maxHeartbeats 4000000 in
set_option maxRecDepth 100000 in
theorem rankOf_up (p q : Int) (n : Nat) (hp : 0 ≤ p) (hpq : p ≤ q) (hq : 1 ≤ q) (hq' : q ≤ 9223372036854775807) (hn : 1 ≤ n) (hn' : n ≤ 1000000) (w : World) :
    Calls Try.prog 64 #[.int .i64 p, .int .i64 q, .int .i64 n] w fun e w' => e = .returned (.int .u64 (tgZ p q n)) ∧ Up w w' := by
  have hX := prod_in2 hp (by omega) (show (0 : Int) ≤ n by omega) (by omega)
  have hQ : In2 q := ⟨by omega, by omega⟩
  have K1 := Lib.hid (fun W => product_up p n ⟨hp, by omega⟩ ⟨by omega, by omega⟩ W)
  have K2 := Lib.hid (fun W => of_up q W)
  have K3 := Lib.hid (fun W => div_v (p * n) q hX hQ (by omega) W)
  rw [show hiZ q = 0 by unfold hiZ; omega, show loZ q = q by unfold loZ; omega] at K3
  obtain ⟨t0, t1⟩ := tgZ_in hp hpq hq (show (1 : Int) ≤ n by omega)
  have hd0 : 0 ≤ p * n / q := Int.ediv_nonneg hX.1 (by omega)
  have hm0 := Int.emod_nonneg (p * n) (show q ≠ 0 by omega)
  have hm1 := Int.emod_lt_of_pos (p * n) (show 0 < q by omega)
  have hR : In2 (p * n % q) := ⟨hm0, by omega⟩
  have hz := wd_zero hR
  have hdn : p * n / q ≤ n := by unfold tgZ at t1; split at t1 <;> omega
  have hlo : loZ (p * n / q) = p * n / q := by unfold loZ; omega
  rw [hlo] at K3
  have k1 : IntKind.u64.wrap p = p := by rw [IntKind.wrap_u64]; omega
  have k2 : IntKind.u64.wrap (n : Int) = n := by rw [IntKind.wrap_u64]; omega
  have k3 : IntKind.u64.wrap q = q := by rw [IntKind.wrap_u64]; omega
  have ht : tgZ p q n = if p * n % q = 0 then max 1 (p * n / q) else p * n / q + 1 := rfl
  rw [ht]
  clear ht t0 t1
  generalize hiZ (p * n / q) = dh at *
  generalize hx : p * (n : Int) = X at *
  generalize X / q = d at *
  generalize X % q = r at *
  by_cases hr : r = 0
  · rw [if_pos hr]
    obtain ⟨z0, z1⟩ := hz.2 hr
    rw [z0, z1] at K3
    clear hz z0 z1 hx hX hQ hR hm0 hm1 hlo
    obtain ⟨m, hm⟩ : ∃ m, m = max 1 d := ⟨_, rfl⟩
    rw [← hm]
    have HM := Lib.hid hm
    clear hm hr
    go_enter Try.func64, Try.ntmps64
    go_wp2_with fail
    refine (K1.out _).mono ?_
    rintro e w1 ⟨rfl, hu1⟩
    go_wp2_with fail
    refine (K2.out _).mono ?_
    rintro e w2 ⟨rfl, hu2⟩
    go_wp2_with fail
    refine (K3.out _).mono ?_
    rintro e w3 ⟨rfl, hu3⟩
    go_wp2_with fail
    all_goals
      go_ret
      exact ⟨by rw [HM.out]; first | (rw [show max (1 : Int) d = d by omega]; rfl) | (rw [show max (1 : Int) d = 1 by omega]; rfl), (((hu1.trans hu2).trans hu3).alloc _ _).alloc _ _⟩
  · rw [if_neg hr]
    have hne : (hiZ r == 0 && loZ r == 0) = false := by
      rw [Bool.eq_false_iff]; intro h; simp at h; exact hr (hz.1 h)
    have k4 : IntKind.u64.wrap (d + 1) = d + 1 := by rw [IntKind.wrap_u64]; omega
    generalize hiZ r = rh at *
    generalize loZ r = rl at *
    have t0 : (rh == 0) = false ∨ ((rh == 0) = true ∧ (rl == 0) = false) := by
      cases h1 : (rh == 0)
      · exact Or.inl rfl
      · cases h2 : (rl == 0)
        · exact Or.inr ⟨rfl, rfl⟩
        · rw [h1, h2] at hne; cases hne
    clear hz hx hX hQ hR hm0 hm1 hlo hne hr
    rcases t0 with t0 | ⟨t0, t1⟩
    · go_enter Try.func64, Try.ntmps64
      go_wp2_with fail
      refine (K1.out _).mono ?_
      rintro e w1 ⟨rfl, hu1⟩
      go_wp2_with fail
      refine (K2.out _).mono ?_
      rintro e w2 ⟨rfl, hu2⟩
      go_wp2_with fail
      refine (K3.out _).mono ?_
      rintro e w3 ⟨rfl, hu3⟩
      go_wp2_with fail
      go_ret
      exact ⟨rfl, (((hu1.trans hu2).trans hu3).alloc _ _).alloc _ _⟩
    · go_enter Try.func64, Try.ntmps64
      go_wp2_with fail
      refine (K1.out _).mono ?_
      rintro e w1 ⟨rfl, hu1⟩
      go_wp2_with fail
      refine (K2.out _).mono ?_
      rintro e w2 ⟨rfl, hu2⟩
      go_wp2_with fail
      refine (K3.out _).mono ?_
      rintro e w3 ⟨rfl, hu3⟩
      go_wp2_with fail
      go_ret
      exact ⟨rfl, (((hu1.trans hu2).trans hu3).alloc _ _).alloc _ _⟩

def askB (p q : Int) : Bool := decide (1 ≤ q ∧ 0 ≤ p ∧ p ≤ q)
/-- A sorted list, and the value at a place of it. -/
def srt (L : List It) : List Int := (L.map (·.2)).mergeSort (fun x y => decide (x ≤ y))
theorem srt_perm (L : List It) : (srt L).Perm (L.map (·.2)) := List.mergeSort_perm _ _
theorem srt_len (L : List It) : (srt L).length = L.length := by rw [(srt_perm L).length_eq, List.length_map]
theorem srt_le (L : List It) : (srt L).Pairwise (fun x y => x ≤ y) := by
  have h := List.pairwise_mergeSort (le := fun x y : Int => decide (x ≤ y)) (fun a b c h1 h2 => by simp only [decide_eq_true_eq] at *; omega) (fun a b => by simp only [Bool.or_eq_true, decide_eq_true_eq]; omega) (L.map (·.2))
  exact h.imp (fun h => by simpa using h)
theorem rk_srt (v : Int) (L : List It) : rkN v L = (srt L).countP (fun x => decide (x ≤ v)) := by
  rw [(srt_perm L).countP_eq, List.countP_map]; rfl
theorem bl_srt (v : Int) (L : List It) : blN v L = (srt L).countP (fun x => decide (x < v)) := by
  rw [(srt_perm L).countP_eq, List.countP_map]; rfl
theorem srt_rank {L : List It} {k : Nat} (hk : k < L.length) : blN ((srt L).getD k 0) L ≤ k ∧ k + 1 ≤ rkN ((srt L).getD k 0) L := by
  have hs : k < (srt L).length := by rw [srt_len]; exact hk
  have hp := List.pairwise_iff_getElem.1 (srt_le L)
  have hg : (srt L).getD k 0 = (srt L)[k] := by simp [List.getD, hs]
  rw [hg, rk_srt, bl_srt]
  obtain ⟨v, hv⟩ : ∃ v, v = (srt L)[k] := ⟨_, rfl⟩
  rw [← hv]
  constructor
  · have e : (srt L).countP (fun x => decide (x < v)) = ((srt L).take k).countP (fun x => decide (x < v)) + ((srt L).drop k).countP (fun x => decide (x < v)) := by rw [← List.countP_append, List.take_append_drop]
    have h2 : ((srt L).drop k).countP (fun x => decide (x < v)) = 0 := by
      rw [List.countP_eq_zero]
      intro x hx
      obtain ⟨j, hj, rfl⟩ := List.getElem_of_mem hx
      simp only [List.getElem_drop, decide_eq_true_eq]
      rw [List.length_drop] at hj
      rcases Nat.eq_zero_or_pos j with h0 | h0
      · subst h0; simp [hv]
      · have := hp k (k + j) hs (by omega) (by omega); omega
    have h1 := List.countP_le_length (p := fun x => decide (x < v)) (l := (srt L).take k)
    rw [List.length_take] at h1
    omega
  · have h3 : ((srt L).take (k + 1)).countP (fun x => decide (x ≤ v)) = k + 1 := by
      rw [List.countP_eq_length.2]
      · rw [List.length_take]; omega
      · intro x hx
        obtain ⟨j, hj, rfl⟩ := List.getElem_of_mem hx
        rw [List.length_take] at hj
        simp only [List.getElem_take, decide_eq_true_eq]
        rcases Nat.lt_or_ge j k with h0 | h0
        · rw [hv]; exact hp j k (by omega) hs h0
        · have : j = k := by omega
          subst this; rw [hv]; exact Int.le_refl _
    have := List.Sublist.countP_le (p := fun x => decide (x ≤ v)) (List.take_sublist (k + 1) (srt L))
    omega
theorem rk_mono {u v : Int} (h : u ≤ v) (L : List It) : rkN u L ≤ rkN v L := List.countP_mono_left (fun x _ hx => by simp only [decide_eq_true_eq] at *; omega)
theorem rk_bl {u v : Int} (h : u < v) (L : List It) : rkN u L ≤ blN v L := List.countP_mono_left (fun x _ hx => by simp only [decide_eq_true_eq] at *; omega)
theorem rank_uniq {L : List It} {k : Nat} {y : Int} (hk : k < L.length) (h1 : blN y L < k + 1) (h2 : k + 1 ≤ rkN y L) : y = (srt L).getD k 0 := by
  obtain ⟨a, b⟩ := srt_rank hk
  rcases (by omega : y < (srt L).getD k 0 ∨ (srt L).getD k 0 < y ∨ y = (srt L).getD k 0) with h | h | h
  · have := rk_bl h L; omega
  · have := rk_bl h L; omega
  · exact h
theorem rank_mem {L : List It} {k : Nat} (hk : k < L.length) : ∃ j, j < L.length ∧ (L.getD j (0, 0)).2 = (srt L).getD k 0 := by
  have hs : k < (srt L).length := by rw [srt_len]; exact hk
  have : (srt L).getD k 0 ∈ L.map (·.2) := (srt_perm L).mem_iff.1 (by simp [List.getD, hs])
  obtain ⟨x, hx, e⟩ := List.mem_map.1 this
  obtain ⟨j, hj, rfl⟩ := List.getElem_of_mem hx
  exact ⟨j, hj, by rw [← e]; simp [List.getD, hj]⟩
/-- What Quantile returns. -/
def qnO (L : List It) (p q : Int) : Option Int := if L = [] ∨ askB p q = false then none else some ((srt L).getD ((tgZ p q L.length).toNat - 1) 0)
end Go.Proofs.Ytflahclphdlolaa
