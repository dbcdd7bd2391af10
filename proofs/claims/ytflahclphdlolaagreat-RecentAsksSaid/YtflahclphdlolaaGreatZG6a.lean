/- Texts of this claim, one after the other. -/
import Derived.ChangeSame
import Derived.Deep.DeepCutAuto
import Derived.Deep.RegionHeld3
import Derived.IntWalk
import Derived.Shelf.Abstract
import Derived.Shelf.SortG.Plain
import Derived.Sort.OwnSortedInts
import Derived.Test.YtflahclphdlolaaGreatZCClock
import Derived.Test.YtflahclphdlolaaGreatZELive
import Derived.Test.YtflahclphdlolaaGreatZESq
import Derived.Test.YtflahclphdlolaaGreatZETotal
import Derived.Test.YtflahclphdlolaaGreatZEWords
import Derived.Test.YtflahclphdlolaaGreatZG0a
import Derived.Test.YtflahclphdlolaaGreatZG2a
import Derived.Test.YtflahclphdlolaaGreatZG3a
import Derived.Test.YtflahclphdlolaaGreatZG4a
import Derived.Test.YtflahclphdlolaaGreatZG5a
import Derived.Test.YtflahclphdlolaaGreatZGLaw
import Derived.Test.YtflahclphdlolaaGreatZWCmp
import Derived.Test.YtflahclphdlolaaGreatZWGcd
import Derived.Test.YtflahclphdlolaaGreatZWMul2
import Derived.Test.YtflahclphdlolaaGreatZWRDiv2
/- The value of a rank: rankOf of package exact, Target, Asks and Quantile of the reference, and the mathematics of a sorted list. -/
namespace Go.Proofs.YtflahclphdlolaaGreat
open Go.RowKit

/-- The rank that p / q stands for among n values. -/
def tgZ (p q n : Int) : Int := if p * n % q = 0 then max 1 (p * n / q) else p * n / q + 1
theorem tgZ_in {p q n : Int} (hp : 0 ≤ p) (hpq : p ≤ q) (hq : 1 ≤ q) (hn : 1 ≤ n) : 1 ≤ tgZ p q n ∧ tgZ p q n ≤ n := by
  have h0 : 0 ≤ p * n := Int.mul_nonneg hp (by omega)
  have h1 : p * n ≤ q * n := Int.mul_le_mul_of_nonneg_right hpq (by omega)
  have hd : 0 ≤ p * n / q := Int.ediv_nonneg h0 (by omega)
  have hl : p * n / q ≤ n := by
    have := Int.ediv_le_ediv (show 0 < q by omega) h1
    rwa [Int.mul_comm q n, Int.mul_ediv_cancel _ (show q ≠ 0 by omega)] at this
  unfold tgZ
  split
  · omega
  · rename_i hr
    have hm : 0 < p * n % q := by have := Int.emod_nonneg (p * n) (show q ≠ 0 by omega); omega
    have he := Int.mul_ediv_add_emod (p * n) q
    have : p * n / q < n := by
      by_cases h : p * n / q < n
      · exact h
      · have := Int.mul_le_mul_of_nonneg_left (show n ≤ p * n / q by omega) (show 0 ≤ q by omega)
        omega
    omega
theorem prod_in2 {p n : Int} (hp : 0 ≤ p) (hp' : p ≤ 9223372036854775807) (hn : 0 ≤ n) (hn' : n ≤ 1000000) : In2 (p * n) := by
  have h1 : p * n ≤ 9223372036854775807 * 1000000 := Int.mul_le_mul hp' hn' hn (by omega)
  exact ⟨Int.mul_nonneg hp hn, by omega⟩
theorem wd_zero {v : Int} (_ : In2 v) : (hiZ v = 0 ∧ loZ v = 0) ↔ v = 0 := by unfold hiZ loZ; omega

set_option maxHeartbeats 4000000 in
set_option maxRecDepth 100000 in
theorem rankOf_up (p q : Int) (n : Nat) (hp : 0 ≤ p) (hpq : p ≤ q) (hq : 1 ≤ q) (hq' : q ≤ 9223372036854775807) (hn : 1 ≤ n) (hn' : n ≤ 1000000) (w : World) :
    Calls Tryz.prog 77 #[.int .i64 p, .int .i64 q, .int .i64 n] w fun e w' => e = .returned (.int .u64 (tgZ p q n)) ∧ Up w w' := by
  have hX := prod_in2 hp (by omega) (show (0 : Int) ≤ n by omega) (by omega)
  have hQ : In2 q := ⟨by omega, by omega⟩
  have K1 := Lib.hid (fun W => product_up p n ⟨hp, by omega⟩ ⟨by omega, by omega⟩ W)
  have K2 := Lib.hid (fun W => of_up q W)
  have K3 := Lib.hid (fun W => div_v (p * n) q hX hQ (by omega) W)
  rw [show hiZ q = 0 by unfold hiZ; omega, show loZ q = q by unfold loZ; omega] at K3
  obtain ⟨t0, t1⟩ := tgZ_in hp hpq hq (show (1 : Int) ≤ n by omega)
  have hd0 : 0 ≤ p * n / q := Int.ediv_nonneg hX.1 (by omega)
  have hm0 := Int.emod_nonneg (p * n) (show q ≠ 0 by omega)
  have hm1 := Int.emod_lt_of_pos (p * n) (show 0 < q by omega)
  have hR : In2 (p * n % q) := ⟨hm0, by omega⟩
  have hz := wd_zero hR
  have hdn : p * n / q ≤ n := by unfold tgZ at t1; split at t1 <;> omega
  have hlo : loZ (p * n / q) = p * n / q := by unfold loZ; omega
  rw [hlo] at K3
  have k1 : IntKind.u64.wrap p = p := by rw [IntKind.wrap_u64]; omega
  have k2 : IntKind.u64.wrap (n : Int) = n := by rw [IntKind.wrap_u64]; omega
  have k3 : IntKind.u64.wrap q = q := by rw [IntKind.wrap_u64]; omega
  have ht : tgZ p q n = if p * n % q = 0 then max 1 (p * n / q) else p * n / q + 1 := rfl
  rw [ht]
  clear ht t0 t1
  generalize hiZ (p * n / q) = dh at *
  generalize hx : p * (n : Int) = X at *
  generalize X / q = d at *
  generalize X % q = r at *
  by_cases hr : r = 0
  · rw [if_pos hr]
    obtain ⟨z0, z1⟩ := hz.2 hr
    rw [z0, z1] at K3
    clear hz z0 z1 hx hX hQ hR hm0 hm1 hlo
    obtain ⟨m, hm⟩ : ∃ m, m = max 1 d := ⟨_, rfl⟩
    rw [← hm]
    have HM := Lib.hid hm
    clear hm hr
    go_enter Tryz.func77, Tryz.ntmps77
    go_wp2_with fail
    refine (K1.out _).mono ?_
    rintro e w1 ⟨rfl, hu1⟩
    go_wp2_with fail
    refine (K2.out _).mono ?_
    rintro e w2 ⟨rfl, hu2⟩
    go_wp2_with fail
    refine (K3.out _).mono ?_
    rintro e w3 ⟨rfl, hu3⟩
    go_wp2_with fail
    all_goals
      go_ret
      exact ⟨by rw [HM.out]; first | (rw [show max (1 : Int) d = d by omega]; rfl) | (rw [show max (1 : Int) d = 1 by omega]; rfl), (((hu1.trans hu2).trans hu3).alloc _ _).alloc _ _⟩
  · rw [if_neg hr]
    have hne : (hiZ r == 0 && loZ r == 0) = false := by
      rw [Bool.eq_false_iff]; intro h; simp at h; exact hr (hz.1 h)
    have k4 : IntKind.u64.wrap (d + 1) = d + 1 := by rw [IntKind.wrap_u64]; omega
    generalize hiZ r = rh at *
    generalize loZ r = rl at *
    have t0 : (rh == 0) = false ∨ ((rh == 0) = true ∧ (rl == 0) = false) := by
      cases h1 : (rh == 0)
      · exact Or.inl rfl
      · cases h2 : (rl == 0)
        · exact Or.inr ⟨rfl, rfl⟩
        · rw [h1, h2] at hne; cases hne
    clear hz hx hX hQ hR hm0 hm1 hlo hne hr
    rcases t0 with t0 | ⟨t0, t1⟩
    · go_enter Tryz.func77, Tryz.ntmps77
      go_wp2_with fail
      refine (K1.out _).mono ?_
      rintro e w1 ⟨rfl, hu1⟩
      go_wp2_with fail
      refine (K2.out _).mono ?_
      rintro e w2 ⟨rfl, hu2⟩
      go_wp2_with fail
      refine (K3.out _).mono ?_
      rintro e w3 ⟨rfl, hu3⟩
      go_wp2_with fail
      go_ret
      exact ⟨rfl, (((hu1.trans hu2).trans hu3).alloc _ _).alloc _ _⟩
    · go_enter Tryz.func77, Tryz.ntmps77
      go_wp2_with fail
      refine (K1.out _).mono ?_
      rintro e w1 ⟨rfl, hu1⟩
      go_wp2_with fail
      refine (K2.out _).mono ?_
      rintro e w2 ⟨rfl, hu2⟩
      go_wp2_with fail
      refine (K3.out _).mono ?_
      rintro e w3 ⟨rfl, hu3⟩
      go_wp2_with fail
      go_ret
      exact ⟨rfl, (((hu1.trans hu2).trans hu3).alloc _ _).alloc _ _⟩

set_option maxHeartbeats 4000000 in
set_option maxRecDepth 100000 in
theorem target_up (p q : Int) (n : Nat) (hp : 0 ≤ p) (hpq : p ≤ q) (hq : 1 ≤ q) (hq' : q ≤ 9223372036854775807) (hn : 1 ≤ n) (hn' : n ≤ 1000000) (w : World) :
    Calls Tryz.prog 63 #[.int .i64 p, .int .i64 q, .int .i64 n] w fun e w' => e = .returned (.int .i64 (tgZ p q n)) ∧ Up w w' := by
  have hX := prod_in2 hp (by omega) (show (0 : Int) ≤ n by omega) (by omega)
  have hQ : In2 q := ⟨by omega, by omega⟩
  have K1 := Lib.hid (fun W => rproduct_up p n ⟨hp, by omega⟩ ⟨by omega, by omega⟩ W)
  have K2 := Lib.hid (fun W => rof_up q W)
  have K3 := Lib.hid (fun W => rdiv_v (p * n) q hX hQ (by omega) W)
  rw [show hiZ q = 0 by unfold hiZ; omega, show loZ q = q by unfold loZ; omega] at K3
  obtain ⟨t0, t1⟩ := tgZ_in hp hpq hq (show (1 : Int) ≤ n by omega)
  have hd0 : 0 ≤ p * n / q := Int.ediv_nonneg hX.1 (by omega)
  have hm0 := Int.emod_nonneg (p * n) (show q ≠ 0 by omega)
  have hm1 := Int.emod_lt_of_pos (p * n) (show 0 < q by omega)
  have hR : In2 (p * n % q) := ⟨hm0, by omega⟩
  have hz := wd_zero hR
  have hdn : p * n / q ≤ n := by unfold tgZ at t1; split at t1 <;> omega
  have hlo : loZ (p * n / q) = p * n / q := by unfold loZ; omega
  rw [hlo] at K3
  have k1 : IntKind.u64.wrap p = p := by rw [IntKind.wrap_u64]; omega
  have k2 : IntKind.u64.wrap (n : Int) = n := by rw [IntKind.wrap_u64]; omega
  have k3 : IntKind.u64.wrap q = q := by rw [IntKind.wrap_u64]; omega
  have ht : tgZ p q n = if p * n % q = 0 then max 1 (p * n / q) else p * n / q + 1 := rfl
  rw [ht]
  clear ht t0 t1
  generalize hiZ (p * n / q) = dh at *
  generalize hx : p * (n : Int) = X at *
  generalize X / q = d at *
  generalize X % q = r at *
  have k5 : IntKind.i64.wrap d = d := IntWalk.i64_in _ (by omega)
  by_cases hr : r = 0
  · rw [if_pos hr]
    obtain ⟨z0, z1⟩ := hz.2 hr
    rw [z0, z1] at K3
    clear hz z0 z1 hx hX hQ hR hm0 hm1 hlo
    obtain ⟨m, hm⟩ : ∃ m, m = max 1 d := ⟨_, rfl⟩
    rw [← hm]
    have HM := Lib.hid hm
    clear hm hr
    go_enter Tryz.func63, Tryz.ntmps63
    go_wp2_with fail
    refine (K1.out _).mono ?_
    rintro e w1 ⟨rfl, hu1⟩
    go_wp2_with fail
    refine (K2.out _).mono ?_
    rintro e w2 ⟨rfl, hu2⟩
    go_wp2_with fail
    refine (K3.out _).mono ?_
    rintro e w3 ⟨rfl, hu3⟩
    go_wp2_with fail
    all_goals
      go_ret
      exact ⟨by rw [HM.out]; first | (rw [show max (1 : Int) d = d by omega]; rfl) | (rw [show max (1 : Int) d = 1 by omega]; rfl), (((hu1.trans hu2).trans hu3).alloc _ _).alloc _ _⟩
  · rw [if_neg hr]
    have hne : (hiZ r == 0 && loZ r == 0) = false := by
      rw [Bool.eq_false_iff]; intro h; simp at h; exact hr (hz.1 h)
    have k4 : IntKind.i64.wrap (d + 1) = d + 1 := IntWalk.i64_in _ (by omega)
    generalize hiZ r = rh at *
    generalize loZ r = rl at *
    have t0 : (rh == 0) = false ∨ ((rh == 0) = true ∧ (rl == 0) = false) := by
      cases h1 : (rh == 0)
      · exact Or.inl rfl
      · cases h2 : (rl == 0)
        · exact Or.inr ⟨rfl, rfl⟩
        · rw [h1, h2] at hne; cases hne
    clear hz hx hX hQ hR hm0 hm1 hlo hne hr
    obtain ⟨m, hm⟩ : ∃ m, m = d + 1 := ⟨_, rfl⟩
    rw [← hm]
    have HM := Lib.hid hm
    clear hm
    rcases t0 with t0 | ⟨t0, t1⟩
    · go_enter Tryz.func63, Tryz.ntmps63
      go_wp2_with fail
      refine (K1.out _).mono ?_
      rintro e w1 ⟨rfl, hu1⟩
      go_wp2_with fail
      refine (K2.out _).mono ?_
      rintro e w2 ⟨rfl, hu2⟩
      go_wp2_with fail
      refine (K3.out _).mono ?_
      rintro e w3 ⟨rfl, hu3⟩
      go_wp2_with fail
      all_goals
        go_ret
        exact ⟨by rw [HM.out]; first | rfl | (rw [show d = 0 by omega]; rfl), (((hu1.trans hu2).trans hu3).alloc _ _).alloc _ _⟩
    · go_enter Tryz.func63, Tryz.ntmps63
      go_wp2_with fail
      refine (K1.out _).mono ?_
      rintro e w1 ⟨rfl, hu1⟩
      go_wp2_with fail
      refine (K2.out _).mono ?_
      rintro e w2 ⟨rfl, hu2⟩
      go_wp2_with fail
      refine (K3.out _).mono ?_
      rintro e w3 ⟨rfl, hu3⟩
      go_wp2_with fail
      all_goals
        go_ret
        exact ⟨by rw [HM.out]; first | rfl | (rw [show d = 0 by omega]; rfl), (((hu1.trans hu2).trans hu3).alloc _ _).alloc _ _⟩
def askB (p q : Int) : Bool := decide (1 ≤ q ∧ 0 ≤ p ∧ p ≤ q)
theorem asks_any (p q : Int) (w : World) :
    Calls Tryz.prog 30 #[.int .i64 p, .int .i64 q] w fun e w' => e = .returned (.bool (askB p q)) ∧ w = w' := by
  by_cases h1 : 1 ≤ q
  · by_cases h2 : 0 ≤ p
    · by_cases h3 : p ≤ q
      · rw [show askB p q = true from decide_eq_true ⟨h1, h2, h3⟩]
        go_enter Tryz.func30, Tryz.ntmps30
        go_wp2
        go_ret
        exact ⟨rfl, rfl⟩
      · rw [show askB p q = false from decide_eq_false (fun h => h3 h.2.2)]
        go_enter Tryz.func30, Tryz.ntmps30
        go_wp2
        go_ret
        exact ⟨rfl, rfl⟩
    · rw [show askB p q = false from decide_eq_false (fun h => h2 h.2.1)]
      go_enter Tryz.func30, Tryz.ntmps30
      go_wp2
      go_ret
      exact ⟨rfl, rfl⟩
  · rw [show askB p q = false from decide_eq_false (fun h => h1 h.1)]
    go_enter Tryz.func30, Tryz.ntmps30
    go_wp2
    go_ret
    exact ⟨rfl, rfl⟩

/-- A sorted list, and the value at a place of it. -/
def srt (L : List It) : List Int := (L.map (·.2)).mergeSort (fun x y => decide (x ≤ y))
theorem srt_perm (L : List It) : (srt L).Perm (L.map (·.2)) := List.mergeSort_perm _ _
theorem srt_len (L : List It) : (srt L).length = L.length := by rw [(srt_perm L).length_eq, List.length_map]
theorem srt_le (L : List It) : (srt L).Pairwise (fun x y => x ≤ y) := by
  have h := List.pairwise_mergeSort (le := fun x y : Int => decide (x ≤ y)) (fun a b c h1 h2 => by simp only [decide_eq_true_eq] at *; omega) (fun a b => by simp only [Bool.or_eq_true, decide_eq_true_eq]; omega) (L.map (·.2))
  exact h.imp (fun h => by simpa using h)
theorem rk_srt (v : Int) (L : List It) : rkN v L = (srt L).countP (fun x => decide (x ≤ v)) := by
  rw [(srt_perm L).countP_eq, List.countP_map]; rfl
theorem bl_srt (v : Int) (L : List It) : blN v L = (srt L).countP (fun x => decide (x < v)) := by
  rw [(srt_perm L).countP_eq, List.countP_map]; rfl
theorem srt_rank {L : List It} {k : Nat} (hk : k < L.length) : blN ((srt L).getD k 0) L ≤ k ∧ k + 1 ≤ rkN ((srt L).getD k 0) L := by
  have hs : k < (srt L).length := by rw [srt_len]; exact hk
  have hp := List.pairwise_iff_getElem.1 (srt_le L)
  have hg : (srt L).getD k 0 = (srt L)[k] := by simp [List.getD, hs]
  rw [hg, rk_srt, bl_srt]
  obtain ⟨v, hv⟩ : ∃ v, v = (srt L)[k] := ⟨_, rfl⟩
  rw [← hv]
  constructor
  · have e : (srt L).countP (fun x => decide (x < v)) = ((srt L).take k).countP (fun x => decide (x < v)) + ((srt L).drop k).countP (fun x => decide (x < v)) := by rw [← List.countP_append, List.take_append_drop]
    have h2 : ((srt L).drop k).countP (fun x => decide (x < v)) = 0 := by
      rw [List.countP_eq_zero]
      intro x hx
      obtain ⟨j, hj, rfl⟩ := List.getElem_of_mem hx
      simp only [List.getElem_drop, decide_eq_true_eq]
      rw [List.length_drop] at hj
      rcases Nat.eq_zero_or_pos j with h0 | h0
      · subst h0; simp [hv]
      · have := hp k (k + j) hs (by omega) (by omega); omega
    have h1 := List.countP_le_length (p := fun x => decide (x < v)) (l := (srt L).take k)
    rw [List.length_take] at h1
    omega
  · have h3 : ((srt L).take (k + 1)).countP (fun x => decide (x ≤ v)) = k + 1 := by
      rw [List.countP_eq_length.2]
      · rw [List.length_take]; omega
      · intro x hx
        obtain ⟨j, hj, rfl⟩ := List.getElem_of_mem hx
        rw [List.length_take] at hj
        simp only [List.getElem_take, decide_eq_true_eq]
        rcases Nat.lt_or_ge j k with h0 | h0
        · rw [hv]; exact hp j k (by omega) hs h0
        · have : j = k := by omega
          subst this; rw [hv]; exact Int.le_refl _
    have := List.Sublist.countP_le (p := fun x => decide (x ≤ v)) (List.take_sublist (k + 1) (srt L))
    omega
theorem rk_mono {u v : Int} (h : u ≤ v) (L : List It) : rkN u L ≤ rkN v L := List.countP_mono_left (fun x _ hx => by simp only [decide_eq_true_eq] at *; omega)
theorem rk_bl {u v : Int} (h : u < v) (L : List It) : rkN u L ≤ blN v L := List.countP_mono_left (fun x _ hx => by simp only [decide_eq_true_eq] at *; omega)
theorem rank_uniq {L : List It} {k : Nat} {y : Int} (hk : k < L.length) (h1 : blN y L < k + 1) (h2 : k + 1 ≤ rkN y L) : y = (srt L).getD k 0 := by
  obtain ⟨a, b⟩ := srt_rank hk
  rcases (by omega : y < (srt L).getD k 0 ∨ (srt L).getD k 0 < y ∨ y = (srt L).getD k 0) with h | h | h
  · have := rk_bl h L; omega
  · have := rk_bl h L; omega
  · exact h
theorem rank_mem {L : List It} {k : Nat} (hk : k < L.length) : ∃ j, j < L.length ∧ (L.getD j (0, 0)).2 = (srt L).getD k 0 := by
  have hs : k < (srt L).length := by rw [srt_len]; exact hk
  have : (srt L).getD k 0 ∈ L.map (·.2) := (srt_perm L).mem_iff.1 (by simp [List.getD, hs])
  obtain ⟨x, hx, e⟩ := List.mem_map.1 this
  obtain ⟨j, hj, rfl⟩ := List.getElem_of_mem hx
  exact ⟨j, hj, by rw [← e]; simp [List.getD, hj]⟩
/-- What Quantile returns. -/
def qnO (L : List It) (p q : Int) : Option Int := if L = [] ∨ askB p q = false then none else some ((srt L).getD ((tgZ p q L.length).toNat - 1) 0)
end Go.Proofs.YtflahclphdlolaaGreat

/- slices.Sort of numbers, and Quantile of package exact and of its reference. -/
namespace Go.Proofs.YtflahclphdlolaaGreat
open Go.RowKit Go.Shelf

/-- The numbers of the shelf's functions and types in this program. -/
def srtRen : Go.Shelf.Ren := ⟨fun | 53 => 76 | 59 => 110 | 63 => 94 | 64 => 95 | 68 => 121 | 70 => 104 | 71 => 105 | 72 => 106 | 73 => 107 | 74 => 108 | 75 => 109 | 76 => 111 | 77 => 112 | 78 => 113 | 79 => 114 | 88 => 116 | 89 => 117 | 90 => 118 | 91 => 119 | 92 => 120 | 96 => 122 | n => n, fun | 0 => 0 | 3 => 3 | 4 => 4 | 5 => 5 | 9 => 9 | 22 => 33 | 23 => 2 | 44 => 125 | 51 => 113 | 60 => 120 | 61 => 121 | 67 => 128 | 69 => 34 | 75 => 132 | 79 => 136 | 83 => 138 | 84 => 139 | n => n, fun n => n⟩
set_option maxRecDepth 1000000 in
theorem srtLays : SlLaysN.n53 Tryz.prog srtRen where
  mixed := by kernel_rfl
  f53 := ⟨ "slices.Sort[[]int64,int64]", by decide, Tryz.func76.trans (congrArg some (by kernel_rfl))⟩
  f59 := ⟨ "cmp.Less[int64]", by decide, Tryz.func110.trans (congrArg some (by kernel_rfl))⟩
  f63 := ⟨ "slices.pdqsortOrdered[int64]", by decide, Tryz.func94.trans (congrArg some (by kernel_rfl))⟩
  f64 := Tryz.func95.trans (congrArg some (by kernel_rfl))
  f68 := ⟨ "cmp.isNaN[int64]", by decide, Tryz.func121.trans (congrArg some (by kernel_rfl))⟩
  f70 := ⟨ "slices.insertionSortOrdered[int64]", by decide, Tryz.func104.trans (congrArg some (by kernel_rfl))⟩
  f71 := ⟨ "slices.heapSortOrdered[int64]", by decide, Tryz.func105.trans (congrArg some (by kernel_rfl))⟩
  f72 := ⟨ "slices.breakPatternsOrdered[int64]", by decide, Tryz.func106.trans (congrArg some (by kernel_rfl))⟩
  f73 := ⟨ "slices.choosePivotOrdered[int64]", by decide, Tryz.func107.trans (congrArg some (by kernel_rfl))⟩
  f74 := ⟨ "slices.reverseRangeOrdered[int64]", by decide, Tryz.func108.trans (congrArg some (by kernel_rfl))⟩
  f75 := ⟨ "slices.partialInsertionSortOrdered[int64]", by decide, Tryz.func109.trans (congrArg some (by kernel_rfl))⟩
  f76 := ⟨ "slices.partitionEqualOrdered[int64]", by decide, Tryz.func111.trans (congrArg some (by kernel_rfl))⟩
  f77 := ⟨ "slices.partitionOrdered[int64]", by decide, Tryz.func112.trans (congrArg some (by kernel_rfl))⟩
  f78 := Tryz.func113.trans (congrArg some (by kernel_rfl))
  f79 := Tryz.func114.trans (congrArg some (by kernel_rfl))
  f88 := ⟨ "slices.siftDownOrdered[int64]", by decide, Tryz.func116.trans (congrArg some (by kernel_rfl))⟩
  f89 := Tryz.func117.trans (congrArg some (by kernel_rfl))
  f90 := Tryz.func118.trans (congrArg some (by kernel_rfl))
  f91 := ⟨ "slices.medianAdjacentOrdered[int64]", by decide, Tryz.func119.trans (congrArg some (by kernel_rfl))⟩
  f92 := ⟨ "slices.medianOrdered[int64]", by decide, Tryz.func120.trans (congrArg some (by kernel_rfl))⟩
  f96 := ⟨ "slices.order2Ordered[int64]", by decide, Tryz.func122.trans (congrArg some (by kernel_rfl))⟩
  t0 := Tryz.underlying0
  a0 := Tryz.isAgg0
  z0 := Tryz.sizeOf0
  v0 := Tryz.zeroValue0
  t3 := Tryz.underlying3
  a3 := Tryz.isAgg3
  z3 := Tryz.sizeOf3
  v3 := Tryz.zeroValue3
  t4 := Tryz.underlying4
  a4 := Tryz.isAgg4
  z4 := Tryz.sizeOf4
  v4 := Tryz.zeroValue4
  t5 := Tryz.underlying5
  a5 := Tryz.isAgg5
  z5 := Tryz.sizeOf5
  v5 := Tryz.zeroValue5
  t9 := Tryz.underlying9
  a9 := Tryz.isAgg9
  z9 := Tryz.sizeOf9
  v9 := Tryz.zeroValue9
  t22 := Tryz.underlying33
  a22 := Tryz.isAgg33
  z22 := Tryz.sizeOf33
  v22 := Tryz.zeroValue33
  t23 := Tryz.underlying2
  a23 := Tryz.isAgg2
  z23 := Tryz.sizeOf2
  v23 := Tryz.zeroValue2
  t44 := Tryz.underlying125
  a44 := Tryz.isAgg125
  z44 := Tryz.sizeOf125
  v44 := Tryz.zeroValue125
  t51 := Tryz.underlying113
  a51 := Tryz.isAgg113
  z51 := Tryz.sizeOf113
  v51 := Tryz.zeroValue113
  t60 := Tryz.underlying120
  a60 := Tryz.isAgg120
  z60 := Tryz.sizeOf120
  v60 := Tryz.zeroValue120
  t61 := Tryz.underlying121
  a61 := Tryz.isAgg121
  z61 := Tryz.sizeOf121
  v61 := Tryz.zeroValue121
  t67 := Tryz.underlying128
  a67 := Tryz.isAgg128
  z67 := Tryz.sizeOf128
  v67 := Tryz.zeroValue128
  t69 := Tryz.underlying34
  a69 := Tryz.isAgg34
  z69 := Tryz.sizeOf34
  v69 := Tryz.zeroValue34
  t75 := Tryz.underlying132
  a75 := Tryz.isAgg132
  z75 := Tryz.sizeOf132
  v75 := Tryz.zeroValue132
  t79 := Tryz.underlying136
  a79 := Tryz.isAgg136
  z79 := Tryz.sizeOf136
  v79 := Tryz.zeroValue136
  t83 := Tryz.underlying138
  a83 := Tryz.isAgg138
  z83 := Tryz.sizeOf138
  v83 := Tryz.zeroValue138
  t84 := Tryz.underlying139
  a84 := Tryz.isAgg139
  z84 := Tryz.sizeOf139
  v84 := Tryz.zeroValue139

/-- What was there is as it was; of new blocks nothing is said. -/
def Lo (w w' : World) : Prop := Below w.heap.size w w'
theorem Lo.of_up {w w' : World} (h : Up w w') : Lo w w' := h.below
theorem Lo.up {a b c : World} (h : Lo a b) (k : Up b c) : Lo a c := Below.trans h (k.below.mono (Below.size h))
theorem Lo.keep {w w' : World} (h : Lo w w') : ∀ b o v, w.cell? ⟨b, o, none⟩ = some v → w'.cell? ⟨b, o, none⟩ = some v := fun b o _ hv =>
  (Below.cell h (p := ⟨b, o, none⟩) (World.block_lt_of_cell? w ⟨b, o, none⟩ hv)).trans hv
theorem Sl.lo {w w' : World} {A : Option Addr} {n : Nat} {L : List It} (h : Sl w A n L) (hu : Lo w w') : Sl w' A n L :=
  ⟨h.1, fun hn => by
    obtain ⟨b, o, e, hc⟩ := h.2 hn
    exact ⟨b, o, e, fun j u hj => hu.keep _ _ _ (hc j u hj)⟩⟩

theorem sort_lo (n : Nat) (M : List Int) (hl : M.length = n) (hn : n ≤ 1000000) (g : Nat) (w0 w : World) (hu : Up w0 w) (hg : w0.heap.size ≤ g) (hB : Bn w g M) :
    Calls Tryz.prog 76 #[.slice (some ⟨g, 0, none⟩) n n] w fun e w' => e = .returned (.tuple #[]) ∧ Bn w' g (M.mergeSort (fun x y => decide (x ≤ y))) ∧ Lo w0 w' := by
  subst hl
  have hH : Go.Sort.Holds (Value.int .i64) w g 0 M.toArray := Go.holds_of_blockI (e := 2) hB (by simp [nl]; exact List.take_of_length_le (by simp))
  have hc := AnyG.slices_Sort_int srtLays g 0 M.length M w hH (Blk.lt hB) (by omega)
  refine hc.mono ?_
  rintro e w' ⟨rfl, m, os, rfl⟩
  have hlen : (M.mergeSort (fun x y => decide (x ≤ y))).length = M.length := List.length_mergeSort _
  refine ⟨rfl, ?_, ?_⟩
  · unfold Bn Blk
    rw [Go.heap_sortedI _ hB]
    congr 2
    apply Array.ext'
    have h1 := Go.take_putCellsI (nl M).toArray (M.mergeSort (fun x y => decide (x ≤ y))) (by rw [hlen]; simp [nl])
    rw [List.take_of_length_le (by rw [hlen]; simp [Go.Sort.putCells, nl])] at h1
    rw [h1]; rfl
  · exact hu.below.grown (Go.grownBy_sortedI _) hu.below.size (fun k hk => by cases hk; exact hg)

set_option maxHeartbeats 8000000 in
set_option maxRecDepth 1000000 in
theorem quantile_lo (n k : Nat) (A : Option Addr) (L : List It) (p q : Int) (hq' : q ≤ 9223372036854775807) (hn : n ≤ 1000000) (w : World) (hS : Sl w A n L) :
    Calls Tryz.prog 50 #[.slice A n k, .int .i64 p, .int .i64 q] w fun e w' => e = got ((qnO L p q).getD 0) (qnO L p q).isSome ∧ Lo w w' := by
  unfold qnO
  by_cases h0 : n = 0
  · have hL : L = [] := List.length_eq_zero_iff.1 (by rw [hS.1]; exact h0)
    rw [if_pos (Or.inl hL)]
    subst h0
    clear hS hL
    go_enter Tryz.func50, Tryz.ntmps50
    go_wp2_with fail
    go_ret2
    exact ⟨rfl, Lo.of_up (Up.refl _)⟩
  have t0 : ((n : Int) == 0) = false := by simp; omega
  have hne : L ≠ [] := fun h => h0 (by rw [← hS.1, h]; rfl)
  by_cases ha : 1 ≤ q ∧ 0 ≤ p ∧ p ≤ q
  case neg =>
    rw [if_pos (Or.inr (show askB p q = false from decide_eq_false ha))]
    clear hS hne
    by_cases h1 : q < 1
    · clear ha
      go_enter Tryz.func50, Tryz.ntmps50
      go_wp2_with fail
      go_ret2
      exact ⟨rfl, Lo.of_up (Up.refl _)⟩
    by_cases h2 : p < 0
    · clear ha
      go_enter Tryz.func50, Tryz.ntmps50
      go_wp2_with fail
      go_ret2
      exact ⟨rfl, Lo.of_up (Up.refl _)⟩
    have h3 : q < p := by omega
    clear ha
    go_enter Tryz.func50, Tryz.ntmps50
    go_wp2_with fail
    go_ret2
    exact ⟨rfl, Lo.of_up (Up.refl _)⟩
  case pos =>
  obtain ⟨a1, a2, a3⟩ := ha
  rw [if_neg (fun h => h.elim hne (fun h => by rw [show askB p q = true from decide_eq_true ⟨a1, a2, a3⟩] at h; cases h))]
  obtain ⟨g1, g2⟩ := tgZ_in a2 a3 a1 (show (1 : Int) ≤ n by omega)
  have KR := Lib.hid (fun W => rankOf_up p q n a2 a3 a1 hq' (by omega) hn W)
  rw [show ((L.length : Nat) : Int) = (n : Int) by rw [hS.1]]
  have hmk := makeN_run n (by omega) w
  have HL := Lib.hid hS.1
  have HS := Lib.hid hS
  generalize tgZ p q (n : Int) = r at *
  obtain ⟨x, hx⟩ : ∃ x, x = (srt L).getD (r.toNat - 1) 0 := ⟨_, rfl⟩
  rw [← hx]
  have HX := Lib.hid hx
  have HB0 := Lib.hid (Bn.new w (List.replicate n 0) w.heap.size rfl)
  clear hS hne hx
  go_enter Tryz.func50, Tryz.ntmps50
  go_wp2_with fail
  go_loopw [32] (fun t wr => ∃ (i : Nat) (M : List Int), t = .int .i64 i ∧ i ≤ n ∧ Hid (M.length = n) ∧ Hid (∀ j, j < i → M.getD j 0 = (L.getD j (0, 0)).2) ∧ Bn wr w.heap.size M ∧ Up w wr) (fun t _ => n - (intOf t).toNat)
  case atStart => exact ⟨0, List.replicate n 0, rfl, Nat.zero_le _, Lib.hid (by simp), Lib.hid (fun j hj => absurd hj (Nat.not_lt_zero _)), HB0.out, (Up.refl w).alloc _ _⟩
  case round =>
    obtain ⟨i, M, rfl, hin, HM, HV, hB, hU⟩ := hrel
    have HU := Lib.hid hU
    have HB := Lib.hid hB
    by_cases hi : i < n
    · obtain ⟨b, o, rfl, d0, d1⟩ := (HS.out.up HU.out).at_ hi
      have c0 := hB.at_ (show i < M.length by rw [HM.out]; exact hi)
      have z0 := Blk.frozen hB i
      have HV1 : Hid (∀ j, j < i + 1 → (M.set i (L.getD i (0, 0)).2).getD j 0 = (L.getD j (0, 0)).2) := Lib.hid (fun j hj => by
        rcases Nat.lt_or_ge j i with h | h
        · have := HV.out j h
          rw [← this]; simp [List.getD, show ¬ i = j by omega]
        · obtain rfl : j = i := by omega
          simp [List.getD, show j < M.length by rw [HM.out]; exact hi])
      have HM1 : Hid ((M.set i (L.getD i (0, 0)).2).length = n) := Lib.hid (by rw [List.length_set]; exact HM.out)
      generalize M.getD i 0 = old at *
      generalize hp1 : (L.getD i (0, 0)).2 = p1 at *
      generalize (L.getD i (0, 0)).1 = p0 at *
      have f2 : (i : Int) < n := by omega
      have f3 : (0 : Int) ≤ i := by omega
      have lb : w.heap.size < wr.heap.size := Blk.lt hB
      clear hB hU hmk HV HM hp1
      go_wp2_with fail
      go_roundw
      case rel => exact ⟨i + 1, _, by go_num, by omega, HM1, HV1, Blk.alloc (HB.out.set_ i p1) _, (HU.out.setCell (Nat.le_refl _) _).alloc _ _⟩
      case measure => simp [intOf]; omega
    · obtain rfl : i = n := by omega
      have hM : M = L.map (·.2) := by
        apply List.ext_getElem (by rw [HM.out, List.length_map, HL.out])
        intro j h1 h2
        have := HV.out j (by rw [← HM.out]; exact h1)
        simp only [List.length_map] at h2
        simpa [List.getD, h1, h2] using this
      have KS := Lib.hid (sort_lo i M HM.out hn w.heap.size w wr hU (Nat.le_refl _) hB)
      rw [hM] at KS
      have hs : (L.map (·.2)).mergeSort (fun x y => decide (x ≤ y)) = srt L := rfl
      rw [hs] at KS
      clear hB hU hmk HV HM hM hs HB
      go_wp2_with fail
      refine KS.out.mono ?_
      rintro e w2 ⟨rfl, hB2, hLo⟩
      have HB2 := Lib.hid hB2
      have HLo := Lib.hid hLo
      clear hB2 hLo KS
      go_wp2_with fail
      refine (KR.out _).mono ?_
      rintro e w3 ⟨rfl, hu3⟩
      have hB3 := HB2.out.up hu3
      have hc := hB3.at_ (show r.toNat - 1 < (srt L).length by rw [srt_len, HL.out]; omega)
      rw [← HX.out] at hc
      have k1 : IntKind.u64.wrap (r - 1) = r - 1 := by rw [IntKind.wrap_u64]; omega
      have k2 : (r - 1).toNat = r.toNat - 1 := by omega
      have k3 : 0 ≤ r - 1 := by omega
      have k4 : r - 1 < (i : Int) := by omega
      have HL3 := Lib.hid (HLo.out.up hu3)
      clear hB3 hu3 HB2
      go_wp2_with fail
      go_ret2
      exact ⟨rfl, HL3.out⟩

set_option maxHeartbeats 8000000 in
set_option maxRecDepth 1000000 in
theorem rquantile_up (n k : Nat) (A : Option Addr) (L : List It) (p q : Int) (hq' : q ≤ 9223372036854775807) (hn : n ≤ 1000000) (w : World) (hS : Sl w A n L) :
    Calls Tryz.prog 31 #[.slice A n k, .int .i64 p, .int .i64 q] w fun e w' => e = got ((qnO L p q).getD 0) (qnO L p q).isSome ∧ Up w w' := by
  unfold qnO
  have KA := Lib.hid (asks_any p q)
  by_cases h0 : n = 0
  · have hL : L = [] := List.length_eq_zero_iff.1 (by rw [hS.1]; exact h0)
    rw [if_pos (Or.inl hL)]
    subst h0
    clear hS hL
    go_enter Tryz.func31, Tryz.ntmps31
    go_wp2_with fail
    go_ret2
    exact ⟨rfl, Up.refl _⟩
  have t0 : ((n : Int) == 0) = false := by simp; omega
  have hne : L ≠ [] := fun h => h0 (by rw [← hS.1, h]; rfl)
  by_cases ha : 1 ≤ q ∧ 0 ≤ p ∧ p ≤ q
  case neg =>
    have hb : askB p q = false := decide_eq_false ha
    rw [if_pos (Or.inr hb)]
    rw [hb] at KA
    clear hS hne ha hb
    go_enter Tryz.func31, Tryz.ntmps31
    go_wp2_with fail
    refine (KA.out _).mono ?_
    rintro e w' ⟨rfl, rfl⟩
    go_wp2_with fail
    go_ret2
    exact ⟨rfl, Up.refl _⟩
  case pos =>
  obtain ⟨a1, a2, a3⟩ := ha
  have hb : askB p q = true := decide_eq_true ⟨a1, a2, a3⟩
  rw [if_neg (fun h => h.elim hne (fun h => by rw [hb] at h; cases h))]
  rw [hb] at KA
  obtain ⟨g1, g2⟩ := tgZ_in a2 a3 a1 (show (1 : Int) ≤ n by omega)
  have KR := Lib.hid (fun W => target_up p q n a2 a3 a1 hq' (by omega) hn W)
  rw [show ((L.length : Nat) : Int) = (n : Int) by rw [hS.1]]
  have HL := Lib.hid hS.1
  have HS := Lib.hid hS
  generalize tgZ p q (n : Int) = r at *
  obtain ⟨x, hx⟩ : ∃ x, x = (srt L).getD (r.toNat - 1) 0 := ⟨_, rfl⟩
  rw [← hx]
  have HX := Lib.hid hx
  have hkl : r.toNat - 1 < L.length := by rw [hS.1]; omega
  have HU1 : Hid (∀ y, (blN y L : Int) < r → r ≤ (rkN y L : Int) → x = y) := Lib.hid (fun y h1 h2 => by rw [hx]; exact (rank_uniq hkl (by omega) (by omega)).symm)
  have HE : Hid (∃ j, j < n ∧ (blN (L.getD j (0, 0)).2 L : Int) < r ∧ r ≤ (rkN (L.getD j (0, 0)).2 L : Int)) := Lib.hid (by
    obtain ⟨j, hj, e⟩ := rank_mem hkl
    obtain ⟨s1, s2⟩ := srt_rank hkl
    exact ⟨j, by rw [← hS.1]; exact hj, by rw [e]; omega, by rw [e]; omega⟩)
  clear hS hne hx hkl hb
  go_enter Tryz.func31, Tryz.ntmps31
  go_wp2_with fail
  refine (KA.out _).mono ?_
  rintro e w' ⟨rfl, rfl⟩
  go_wp2_with fail
  refine (KR.out _).mono ?_
  rintro e w1 ⟨rfl, hu1⟩
  have HW1 := Lib.hid hu1
  clear hu1
  go_wp2_with fail
  go_loopw [27] (fun t wr => ∃ i : Nat, t = .int .i64 i ∧ i ≤ n ∧ Hid (∀ j, j < i → ¬ ((blN (L.getD j (0, 0)).2 L : Int) < r ∧ r ≤ (rkN (L.getD j (0, 0)).2 L : Int))) ∧ Up w wr) (fun t _ => n - (intOf t).toNat)
  case atStart => exact ⟨0, rfl, Nat.zero_le _, Lib.hid (fun j hj => absurd hj (Nat.not_lt_zero _)), HW1.out⟩
  case round =>
    obtain ⟨i, rfl, hin, HG, hU⟩ := hrel
    have HU := Lib.hid hU
    clear hU
    by_cases hi : i < n
    · obtain ⟨b, o, rfl, d0, d1⟩ := (HS.out.up HU.out).at_ hi
      have HY := Lib.hid (HU1.out (L.getD i (0, 0)).2)
      have HG1 : Hid (¬ ((blN (L.getD i (0, 0)).2 L : Int) < r ∧ r ≤ (rkN (L.getD i (0, 0)).2 L : Int)) → ∀ j, j < i + 1 → ¬ ((blN (L.getD j (0, 0)).2 L : Int) < r ∧ r ≤ (rkN (L.getD j (0, 0)).2 L : Int))) := Lib.hid (fun hx j hj => by
        rcases Nat.lt_or_ge j i with h | h
        · exact HG.out j h
        · obtain rfl : j = i := by omega
          exact hx)
      generalize (L.getD i (0, 0)).1 = p0 at *
      generalize (L.getD i (0, 0)).2 = p1 at *
      have K1 := Lib.hid (fun W (h : Up w W) => rbelow_up n k _ L p1 hn W (HS.out.up h))
      have K2 := Lib.hid (fun W (h : Up w W) => rrank_up n k _ L p1 hn W (HS.out.up h))
      generalize ((blN p1 L : Nat) : Int) = bl at *
      generalize ((rkN p1 L : Nat) : Int) = rk at *
      have f2 : (i : Int) < n := by omega
      have f3 : (0 : Int) ≤ i := by omega
      have HUa := Lib.hid (HU.out.alloc #[.int .i64 p0, .int .i64 p1] 70)
      clear HG
      by_cases hb1 : bl < r
      · by_cases hb2 : r ≤ rk
        · obtain rfl : x = p1 := HY.out hb1 hb2
          clear HY HG1 HX
          go_wp2_with fail
          refine (K1.out _ HUa.out).mono ?_
          rintro e w2 ⟨rfl, hu2⟩
          have c1 := hu2.keep wr.heap.size 1 (.int .i64 x) (by simp [go_sem])
          have HU2 := Lib.hid (HUa.out.trans hu2)
          clear hu2
          go_wp2_with fail
          refine (K2.out _ HU2.out).mono ?_
          rintro e w3 ⟨rfl, hu3⟩
          have c2 := hu3.keep _ _ _ c1
          have HU3 := Lib.hid (HU2.out.trans hu3)
          clear hu3
          go_wp2_with fail
          go_ret2
          exact ⟨rfl, HU3.out⟩
        · have HG2 := Lib.hid (HG1.out (fun h => hb2 h.2))
          clear HY HG1 HX
          go_wp2_with fail
          refine (K1.out _ HUa.out).mono ?_
          rintro e w2 ⟨rfl, hu2⟩
          have c1 := hu2.keep wr.heap.size 1 (.int .i64 p1) (by simp [go_sem])
          have HU2 := Lib.hid (HUa.out.trans hu2)
          clear hu2
          go_wp2_with fail
          refine (K2.out _ HU2.out).mono ?_
          rintro e w3 ⟨rfl, hu3⟩
          have HU3 := Lib.hid (HU2.out.trans hu3)
          clear hu3
          go_wp2_with fail
          go_roundw
          case rel => exact ⟨i + 1, by go_num, by omega, HG2, HU3.out⟩
          case measure => simp [intOf]; omega
      · have HG2 := Lib.hid (HG1.out (fun h => hb1 h.1))
        clear HY HG1 HX
        go_wp2_with fail
        refine (K1.out _ HUa.out).mono ?_
        rintro e w2 ⟨rfl, hu2⟩
        have HU2 := Lib.hid (HUa.out.trans hu2)
        clear hu2
        go_wp2_with fail
        go_roundw
        case rel => exact ⟨i + 1, by go_num, by omega, HG2, HU2.out⟩
        case measure => simp [intOf]; omega
    · obtain ⟨j, hj, h1, h2⟩ := HE.out
      exact absurd ⟨h1, h2⟩ (HG.out j (by omega))
end Go.Proofs.YtflahclphdlolaaGreat

/- The end of a law's proof where new blocks are not known to be unfrozen: only old memory is spoken of. -/
namespace Go.Proofs.YtflahclphdlolaaGreat
open Go.ChangeShapes Go.WideShapes Go.ChangeAt Go.RowKit Go.Joins Go.Deep

section
variable {H : Type} {enc : TypeId × Value → H}
theorem stayLo {t : TypeId} (hr : Tryz.prog.readableRec t = true) (hrow : t < Tryz.prog.types.size) {W W' : World} {v : Value} {d : DataW H} {ps before : List MemPlace} {sp : Nat → Bool}
    (h : DataW.Trod enc Tryz.prog W 0 (fun _ => true) true t v d ps) (hu : Lo W W') (hlt : ∀ x ∈ before, x.block < W.heap.size) (hsub : ∀ x ∈ ps, x ∈ before) (hsp : ∀ x ∈ before, sp x.block = true) :
    DataW.Trod enc Tryz.prog W' 0 sp true t v d ps :=
  WideElems.Trod_stays laid_out hr hrow h (fun x hx => Below.same hu (hlt x (hsub x hx))) (fun x hx => hsp x (hsub x hx))
theorem Lo.kept {W W' : World} (h : Lo W W') (may : MemPlace → Prop) : W.keptBut W' may := by
  refine ⟨Below.os h, Below.output h, fun i hi => ?_⟩
  rw [Below.block h i hi]
  cases hw : W.heap[i]? with
  | none => rfl
  | some o => cases o with
    | cells c t fr => exact ⟨rfl, rfl, rfl, fun _ _ => rfl⟩
    | map es cl => exact Or.inr ⟨rfl, rfl⟩
    | _ => rfl
theorem Lo.frozen {W W' : World} (h : Lo W W') (a : Addr) (ha : a.block < W.heap.size) : W'.frozen? a = W.frozen? a := by
  simp only [World.frozen?, Below.block h a.block ha]
theorem post_lo {P : Program} {f : Func} {s : ChangeSpec} {apart fresh handsOn again : Bool} {W W' : World} {args : Array Value} {v : Value} {ds gs : List (DataW H)} {before pa : List MemPlace} (hg : Lo W W')
    (hW : DataW.Whole enc P f.params.toList s.vars apart W args.toList ds gs before)
    (hres : ∀ (b : Nat) (sp : Nat → Bool) (hd : Bool), DataW.TrodAll enc P W' b sp hd f.resultTypes.toList (v.resultList f.resultTypes.size) (s.fn H (ds ++ gs)).results [])
    (hargs : ∀ sp : Nat → Bool, (∀ p ∈ before, sp p.block = true) → DataW.TrodAll enc P W' 0 sp true f.params.toList args.toList (s.fn H (ds ++ gs)).args pa)
    (hvars : ∀ sp : Nat → Bool, DataW.TrodVars enc P W' sp s.vars (s.fn H (ds ++ gs)).vars [])
    (hps : before = pa) (hok : ∀ (j : Nat) (t : TypeId) (r : Value), f.resultTypes[j]? = some t → (v.resultList f.resultTypes.size)[j]? = some r → Value.okWide P W' .any 0 t r) :
    s.post enc P f apart fresh handsOn again W args v W' := by
  subst hps
  have hb : ∀ p ∈ before, p.block < W.heap.size := fun p hp => hW.lt p hp
  have hW2 := hW
  obtain ⟨_, _, _, _, _, hz, hn⟩ := hW2
  refine ⟨ds, gs, before, [], before, [], hW, hres _ _ _, hargs _ (fun p hp => decide_eq_true (hb p hp)), hvars _, World.keptBut_mono (fun p hp => ⟨hp, Or.inr (Or.inl hp)⟩) (hg.kept (· ∈ before)), fun _ => ⟨hok, _, _, ([] ++ before) ++ [], ⟨[] ++ before, [], trodAll_append (hargs _ (fun _ _ => rfl)) (hres _ _ _), hvars _, rfl, fun b off hp => ?_, fun ha => ?_⟩, fun p hp _ => by simpa using hp⟩⟩
  · have hm : MemPlace.cell b off ∈ before := by simpa using hp
    rw [hg.frozen ⟨b, off, none⟩ (hb _ hm)]
    exact hz b off hm
  · have := hn ha
    simpa using this
end
end Go.Proofs.YtflahclphdlolaaGreat

/- What sumOf of package exact returns, for any closure whose answers are known. -/
namespace Go.Proofs.YtflahclphdlolaaGreat
open Go.RowKit

/-- The sum of terms, as long as each has one and all sums fit. -/
def accO (f : It → Int) (b : It → Bool) : Int → List It → Option Int
  | s, [] => some s
  | s, x :: L => if (b x && fits2 (s + f x)) = true then accO f b (s + f x) L else none
def gotW (o : Option Int) : Ending := got2 (o.getD 0) o.isSome
theorem drop_consI {L : List It} {i : Nat} (h : i < L.length) : L.drop i = L.getD i (0, 0) :: L.drop (i + 1) := by
  rw [List.drop_eq_getElem_cons h]; simp [List.getD, h]
theorem accO_end {f : It → Int} {b : It → Bool} {L : List It} {i : Nat} {s : Int} (h : L.length ≤ i) : accO f b s (L.drop i) = some s := by rw [List.drop_eq_nil_of_le h]; rfl
theorem accO_next {f : It → Int} {b : It → Bool} {L : List It} {i : Nat} {s : Int} (h : i < L.length) (hb : b (L.getD i (0, 0)) = true) (hf : fits2 (s + f (L.getD i (0, 0))) = true) : accO f b s (L.drop i) = accO f b (s + f (L.getD i (0, 0))) (L.drop (i + 1)) := by
  rw [drop_consI h, accO, hb, hf]; rfl
theorem accO_no {f : It → Int} {b : It → Bool} {L : List It} {i : Nat} {s : Int} (h : i < L.length) (hb : b (L.getD i (0, 0)) = false) : accO f b s (L.drop i) = none := by
  rw [drop_consI h, accO, hb]; rfl
theorem accO_big {f : It → Int} {b : It → Bool} {L : List It} {i : Nat} {s : Int} (h : i < L.length) (hf : fits2 (s + f (L.getD i (0, 0))) = false) : accO f b s (L.drop i) = none := by
  rw [drop_consI h, accO, hf, Bool.and_false]; rfl

/-- What the walks of sums hold: the result's cells, and the sum so far in block g. -/
structure Sm (w wr : World) (g : Nat) (s : Int) : Prop where
  up : Up w wr
  r0 : wr.cell? ⟨w.heap.size, 0, none⟩ = some (.int .u64 0)
  r1 : wr.cell? ⟨w.heap.size, 1, none⟩ = some (.int .u64 0)
  s0 : wr.cell? ⟨g, 0, none⟩ = some (.int .u64 (hiZ s))
  s1 : wr.cell? ⟨g, 1, none⟩ = some (.int .u64 (loZ s))
theorem Sm.keep {w w1 w2 : World} {g : Nat} {s : Int} (h : Sm w w1 g s) (hu : Up w1 w2) : Sm w w2 g s :=
  ⟨h.up.trans hu, hu.keep _ _ _ h.r0, hu.keep _ _ _ h.r1, hu.keep _ _ _ h.s0, hu.keep _ _ _ h.s1⟩
theorem Sm.set {w w1 : World} {g : Nat} {s u : Int} (h : Sm w w1 g s) (hg : w.heap.size < g) : Sm w ((w1.setCell ⟨g, 0, none⟩ (.int .u64 (hiZ u))).setCell ⟨g, 1, none⟩ (.int .u64 (loZ u))) g u := by
  have far : ∀ (W : World) (i : Nat) (x : Value) (o : Nat) (y : Value), W.cell? ⟨w.heap.size, o, none⟩ = some y → (W.setCell ⟨g, i, none⟩ x).cell? ⟨w.heap.size, o, none⟩ = some y := fun W i x o y hy => (cell_far (by show g ≠ w.heap.size; omega)).trans hy
  refine ⟨(h.up.setCell (by show w.heap.size ≤ g; omega) _).setCell (by show w.heap.size ≤ g; omega) _, far _ _ _ _ _ (far _ _ _ _ _ h.r0), far _ _ _ _ _ (far _ _ _ _ _ h.r1), ?_, ?_⟩
  · rw [cell_set (cell_set h.s0)]; rfl
  · rw [cell_set (cell_set h.s1)]; rfl

end Go.Proofs.YtflahclphdlolaaGreat

/- What Poly of package exact and of its reference return. -/
namespace Go.Proofs.YtflahclphdlolaaGreat
open Go.RowKit

/-- The term of an item: its weight times its value, and whether there is one. -/
def tmP (land p : Int) (x : It) : Bool := decide (land ≤ x.1 ∧ x.1 ≤ 16777216 ∧ 0 ≤ x.2)
def tmB (land p : Int) (x : It) : Bool := tmP land p x && fits2 (powV (x.1 - land + 1) p * x.2)
def tmF (land p : Int) (x : It) : Int := if tmB land p x = true then powV (x.1 - land + 1) p * x.2 else 0
theorem fit2_in2 (v : Int) : In2 (fit2 v) := by
  unfold fit2
  by_cases h : fits2 v = true
  · rw [if_pos h]; exact (of_decide_eq_true h : 0 ≤ v ∧ v < 340282366920938463463374607431768211456)
  · rw [if_neg h]; exact ⟨by decide, by decide⟩
theorem powV_in2 (a n : Int) : In2 (powV a n) := by
  unfold powV
  split
  · exact ⟨by decide, by decide⟩
  · exact fit2_in2 _
theorem tmF_in2 (land p : Int) (x : It) : In2 (tmF land p x) := by
  unfold tmF
  by_cases h : tmB land p x = true
  · rw [if_pos h]
    unfold tmB at h
    rw [Bool.and_eq_true] at h
    exact (of_decide_eq_true h.2 : _ ∧ _)
  · rw [if_neg h]; exact ⟨by decide, by decide⟩
theorem tm_no {land p : Int} {x : It} (h : tmP land p x = false) : tmB land p x = false ∧ tmF land p x = 0 := by
  have e : tmB land p x = false := by unfold tmB; rw [h]; rfl
  exact ⟨e, by unfold tmF; rw [e]; rfl⟩
theorem tm_yes {land p : Int} {x : It} (h : tmP land p x = true) : tmB land p x = fits2 (powV (x.1 - land + 1) p * x.2) ∧ tmF land p x = fit2 (powV (x.1 - land + 1) p * x.2) := by
  have e : tmB land p x = fits2 (powV (x.1 - land + 1) p * x.2) := by unfold tmB; rw [h]; rfl
  refine ⟨e, ?_⟩
  unfold tmF fit2
  rw [e]
/-- What Poly returns. -/
def plO (L : List It) (land p : Int) : Option Int := if (tickB land && decide (0 ≤ p ∧ p ≤ 4)) = true then accO (tmF land p) (tmB land p) 0 L else none

end Go.Proofs.YtflahclphdlolaaGreat

/- Rows of the call's own, of any element type: append, and what it leaves alone. -/
namespace Go.Proofs.YtflahclphdlolaaGreat
open Go.RowKit

/-- A row of the call's own. -/
def Rw (w0 w : World) (e : TypeId) (sz : Nat) (v : Value) (n : Nat) (cs : List Value) : Prop := w.ownsRow w0.heap.size e sz v n cs
theorem Rw.nil (w0 w : World) (e : TypeId) (sz : Nat) : Rw w0 w e sz (.slice none 0 0) 0 [] := ⟨by simp, Or.inl ⟨rfl, rfl⟩⟩
theorem Rw.of_up {w0 w w' : World} {e : TypeId} {sz n : Nat} {v : Value} {cs : List Value} (h : Rw w0 w e sz v n cs) (hu : Up w w') : Rw w0 w' e sz v n cs := by
  refine ⟨h.1, ?_⟩
  rcases h.2 with h0 | ⟨g, cap, cur, h1, h2, h3, h4⟩
  · exact Or.inl h0
  · exact Or.inr ⟨g, cap, cur, h1, h2, Blk.up (t := e) h3 hu, h4⟩
/-- Two addresses in different blocks. -/
def Apt (A B : Option Addr) : Prop := ∀ g o o', A = some ⟨g, o, none⟩ → B = some ⟨g, o', none⟩ → False
theorem Apt.symm {A B : Option Addr} (h : Apt A B) : Apt B A := fun g o o' h1 h2 => h g o' o h2 h1
theorem Apt.none_l {B : Option Addr} : Apt none B := fun _ _ _ h => by cases h
theorem Rw.stay {w0 w w' : World} {e : TypeId} {sz n k g : Nat} {B : Option Addr} {cs : List Value} (h : Rw w0 w e sz (.slice B n k) n cs) (hk : ∀ x t xs, Blk w x t xs → x ≠ g → Blk w' x t xs) (hn : ∀ o, B ≠ some ⟨g, o, none⟩) : Rw w0 w' e sz (.slice B n k) n cs := by
  refine ⟨h.1, ?_⟩
  rcases h.2 with h0 | ⟨g2, cap, cur, h1, h2, h3, h4⟩
  · exact Or.inl h0
  · refine Or.inr ⟨g2, cap, cur, h1, h2, hk g2 e cur h3 (fun e => ?_), h4⟩
    subst e
    cases h1
    exact hn 0 rfl
theorem Rw.lt {w0 w : World} {e : TypeId} {sz n k : Nat} {B : Option Addr} {cs : List Value} (h : Rw w0 w e sz (.slice B n k) n cs) : ∀ g o, B = some ⟨g, o, none⟩ → g < w.heap.size := by
  rintro g o rfl
  rcases h.2 with ⟨h0, _⟩ | ⟨g2, cap, cur, h1, h2, h3, h4⟩
  · cases h0
  · cases h1
    exact Blk.lt (t := e) h3

theorem appendR (sl e ty : TypeId) (z : Value) (sz bt : Nat) (ht : Tryz.prog.underlying sl = some (.slice e)) (hinf : (Tryz.prog.info? e).map (fun i => (i.zero, i.size, i.bytes)) = some (some z, sz, bt)) (hzs : z.cells.size = sz) (hbt : bt ≤ 1000)
    (w0 w : World) (v : Value) (n : Nat) (cs : List Value) (hO : Rw w0 w e sz v n cs) (hu : Up w0 w) (b o m c : Nat) (ds : List Value) (hd : ds.length = m * sz) (h0 : 0 < m) (hcell : ∀ j u, ds[j]? = some u → w.cell? ⟨b, o + j, none⟩ = some u) (hone : ∀ u ∈ ds, u.oneCell' = true) (hlen : n + m ≤ 1000000) :
    ∃ g' k' w', (Builtin.append_ #[sl, sl] ty #[v, .slice (some ⟨b, o, none⟩) m c]).run Tryz.prog w = .ok (.slice (some ⟨g', 0, none⟩) (n + m) k') w' ∧ Rw w0 w' e sz (.slice (some ⟨g', 0, none⟩) (n + m) k') (n + m) (cs ++ ds) ∧ Up w0 w' ∧
      (w.heap.size ≤ g' ∨ ∃ n0 k0, v = .slice (some ⟨g', 0, none⟩) n0 k0) ∧ ∀ x t xs, Blk w x t xs → x ≠ g' → Blk w' x t xs := by
  obtain ⟨i, hi, hz, hs, hb⟩ := info_parts hinf
  have h63 : n + m ≤ maxLen := by simp only [maxLen]; omega
  have hbase := hu.size
  have hLn : cs.length = n * sz := hO.1
  have hfl : (cs ++ ds).length = (n + m) * sz := by rw [List.length_append, hLn, hd, Nat.add_mul]
  have hbm : (n + m) * bt ≤ 140737488351232 := Nat.le_trans (Nat.mul_le_mul hlen hbt) (by decide)
  have hmm : m * bt ≤ 140737488351232 := Nat.le_trans (Nat.mul_le_mul_right _ (by omega)) hbm
  have hnews : ∀ j u, ds[j]? = some u → w.cell? ((⟨b, o, none⟩ : Addr).add j) = some u := fun j u hj => by rw [add_at]; exact hcell j u hj
  have hl : ds.length = m * i.size := by rw [hd, hs]
  have grown : ∀ (old : Nat), old < n + m →
    (w.drew.alloc (.cells (cs.toArray ++ ds.toArray ++ Builtin.zeroCells z.cells (grownCap w (n + m) old e - (n + m))) e)).ownsRow w0.heap.size e sz
      (.slice (some ⟨w.heap.size, 0, none⟩) (n + m) (grownCap w (n + m) old e)) (n + m) (cs ++ ds) := by
    intro old ho
    have hge := grownCap_ge w (n + m) old e
    have hcm : grownCap w (n + m) old e ≤ maxLen := grownCap_le_maxLen w (n + m) old _ h63
    refine ⟨hfl, .inr ⟨w.heap.size, _, _, rfl, hbase, heap_alloc_new w.drew _, hge, hcm, ?_, ?_⟩⟩
    · simp only [Array.size_append, List.size_toArray, size_zeroCells, hLn, hd, hzs]
      rw [← Nat.add_mul, ← Nat.add_mul, Nat.add_sub_cancel' hge]
    · simp only [Array.toList_append, List.append_assoc]
      rw [← List.append_assoc, ← hfl]
      exact List.take_left
  have fresh : ∀ (ob : Obj) x t xs, Blk w x t xs → x ≠ w.heap.size → Blk (w.drew.alloc ob) x t xs := fun ob x t xs h _ => Blk.alloc (Blk.drew h) ob
  rcases hO.2 with ⟨rfl, rfl⟩ | ⟨g, cap, cur, rfl, hbg, hg, hnc, hcm, hcs, htake⟩
  · have hx : cs = [] := List.eq_nil_of_length_eq_zero (by rw [hLn, Nat.zero_mul])
    have hr := run_append_nil (P := Tryz.prog) w sl ty e i _ ht hi hz ⟨b, o, none⟩ m c ds hl hnews (by omega) (by omega) (by rw [hb]; omega)
    have hgr := grown 0 (by omega)
    rw [hx] at hgr ⊢
    simp only [Nat.zero_add, List.nil_append, Array.empty_append] at hgr ⊢
    exact ⟨_, _, _, hr, hgr, hu.drew.alloc _ _, Or.inl (Nat.le_refl _), fresh _⟩
  · by_cases hroom : n + m ≤ cap
    · have hfit : n * i.size + ds.length ≤ cur.size := by rw [hl, hcs, hs, ← Nat.add_mul]; exact Nat.mul_le_mul_right _ hroom
      have hr := run_append_room (P := Tryz.prog) w sl ty e i ht hi g n cap cur hg ⟨b, o, none⟩ m c ds hl hnews hone hroom hfit
      obtain ⟨h1, h2⟩ := Cp.set w g cur (cur.toList.take (n * i.size) ++ ds ++ cur.toList.drop (n * i.size + ds.length)).toArray _ hg
      refine ⟨g, cap, _, hr, ⟨hfl, .inr ⟨g, cap, _, rfl, hbg, h2, hroom, hcm, ?_, ?_⟩⟩, h1.up w0 hu hbg, Or.inr ⟨_, _, rfl⟩, fun x t xs hx hne => (h1.far x hne).trans hx⟩
      · simp only [List.size_toArray, List.length_append, List.length_take, List.length_drop, Array.length_toList]
        omega
      · rw [hs, htake, ← hfl]
        exact List.take_left
    · have holds : ∀ j u, cs[j]? = some u → w.cell? ((⟨g, 0, none⟩ : Addr).add j) = some u := World.ownsRow.cells (g := g) hO rfl
      have hr := run_append_grow (P := Tryz.prog) w sl ty e i _ ht hi hz ⟨g, 0, none⟩ n cap cs (by rw [hs]; exact hO.1) holds ⟨b, o, none⟩ m c ds hl hnews (by omega) (by omega) (growslice_fits (by omega) (by rw [hb]; omega))
      exact ⟨_, _, _, hr, grown cap (by omega), hu.drew.alloc _ _, Or.inl (Nat.le_refl _), fresh _⟩

/-- append of one element, in a world that stands behind its own row of one element; a second row of the call's own stays. -/
theorem appendP (sl e ty : TypeId) (z : Value) (sz bt : Nat) (ht : Tryz.prog.underlying sl = some (.slice e)) (hinf : (Tryz.prog.info? e).map (fun i => (i.zero, i.size, i.bytes)) = some (some z, sz, bt)) (hzs : z.cells.size = sz) (hbt : bt ≤ 1000)
    (w0 w : World) (A : Option Addr) (n k : Nat) (cs : List Value) (hO : Rw w0 w e sz (.slice A n k) n cs) (hu : Up w0 w) (g : Nat) (ds : List Value) (hd : ds.length = sz) (hrow : Blk w g e ds.toArray) (hone : ∀ u ∈ ds, u.oneCell' = true) (hlen : n + 1 ≤ 1000000)
    (e' : TypeId) (sz' : Nat) (B : Option Addr) (n' k' : Nat) (cs' : List Value) (hB : Rw w0 w e' sz' (.slice B n' k') n' cs') (hap : Apt A B) :
    ∃ A2 k2 w2, (Builtin.append_ #[sl, sl] ty #[.slice A n k, .slice (some ⟨g, 0, none⟩) 1 1]).run Tryz.prog w = .ok (.slice A2 (n + 1) k2) w2 ∧ Rw w0 w2 e sz (.slice A2 (n + 1) k2) (n + 1) (cs ++ ds) ∧ Rw w0 w2 e' sz' (.slice B n' k') n' cs' ∧ Apt A2 B ∧ Up w0 w2 := by
  obtain ⟨g', k2, w2, hr, h1, h2, h3, h4⟩ := appendR sl e ty z sz bt ht hinf hzs hbt w0 w (.slice A n k) n cs hO hu g 0 1 1 ds (by omega) (by omega) (fun j u hj => by rw [Nat.zero_add, Blk.cell hrow]; simpa using hj) hone hlen
  have hne : ∀ o, B ≠ some ⟨g', o, none⟩ := fun o hb => by
    rcases h3 with h | ⟨n0, k0, h⟩
    · have := hB.lt g' o hb; omega
    · cases h
      exact hap g' 0 o rfl hb
  exact ⟨_, k2, w2, hr, h1, hB.stay h4 hne, fun x o o' hx hy => by cases hx; exact hne _ hy, h2⟩
theorem Rw.own {w0 w : World} {v : Value} {n : Nat} {L : List It} (h : Rw w0 w 70 2 v n (fl L)) : Own w0 w v n L := h
end Go.Proofs.YtflahclphdlolaaGreat
