/- Texts of this claim, one after the other. -/
import Derived.ChangeSame
import Derived.Shelf.SortG.Plain
import Derived.Sort.OwnSortedInts
import Derived.Test.YtflahclphdlolaaZEWords
import Derived.Test.YtflahclphdlolaaZG0a
import Derived.Test.YtflahclphdlolaaZG2a
import Derived.Test.YtflahclphdlolaaZG5a
import Derived.Test.YtflahclphdlolaaZWCmp
import Derived.Test.YtflahclphdlolaaZWGcd
import Derived.Test.YtflahclphdlolaaZWRDiv2
/- The value of a rank: rankOf of package exact, Target, Asks and Quantile of the reference, and the mathematics of a sorted list. -/
namespace Go.Proofs.Ytflahclphdlolaa
open Go.RowKit

/-- The rank that p / q stands for among n values. -/
def tgZ (p q n : Int) : Int := if p * n % q = 0 then max 1 (p * n / q) else p * n / q + 1
theorem tgZ_in {p q n : Int} (hp : 0 ≤ p) (hpq : p ≤ q) (hq : 1 ≤ q) (hn : 1 ≤ n) : 1 ≤ tgZ p q n ∧ tgZ p q n ≤ n := by
  have h0 : 0 ≤ p * n := Int.mul_nonneg hp (by omega)
  have h1 : p * n ≤ q * n := Int.mul_le_mul_of_nonneg_right hpq (by omega)
  have hd : 0 ≤ p * n / q := Int.ediv_nonneg h0 (by omega)
  have hl : p * n / q ≤ n := by
    have := Int.ediv_le_ediv (show 0 < q by omega) h1
    rwa [Int.mul_comm q n, Int.mul_ediv_cancel _ (show q ≠ 0 by omega)] at this
  unfold tgZ
  split
  · omega
  · rename_i hr
    have hm : 0 < p * n % q := by have := Int.emod_nonneg (p * n) (show q ≠ 0 by omega); omega
    have he := Int.mul_ediv_add_emod (p * n) q
    have : p * n / q < n := by
      by_cases h : p * n / q < n
      · exact h
      · have := Int.mul_le_mul_of_nonneg_left (show n ≤ p * n / q by omega) (show 0 ≤ q by omega)
        omega
    omega
theorem prod_in2 {p n : Int} (hp : 0 ≤ p) (hp' : p ≤ 9223372036854775807) (hn : 0 ≤ n) (hn' : n ≤ 1000000) : In2 (p * n) := by
  have h1 : p * n ≤ 9223372036854775807 * 1000000 := Int.mul_le_mul hp' hn' hn (by omega)
  exact ⟨Int.mul_nonneg hp hn, by omega⟩
theorem wd_zero {v : Int} (_ : In2 v) : (hiZ v = 0 ∧ loZ v = 0) ↔ v = 0 := by unfold hiZ loZ; omega

set_option maxHeartbeats 4000000 in
set_option maxRecDepth 100000 in
theorem rankOf_up (p q : Int) (n : Nat) (hp : 0 ≤ p) (hpq : p ≤ q) (hq : 1 ≤ q) (hq' : q ≤ 9223372036854775807) (hn : 1 ≤ n) (hn' : n ≤ 1000000) (w : World) :
    Calls Try.prog 64 #[.int .i64 p, .int .i64 q, .int .i64 n] w fun e w' => e = .returned (.int .u64 (tgZ p q n)) ∧ Up w w' := by
  have hX := prod_in2 hp (by omega) (show (0 : Int) ≤ n by omega) (by omega)
  have hQ : In2 q := ⟨by omega, by omega⟩
  have K1 := Lib.hid (fun W => product_up p n ⟨hp, by omega⟩ ⟨by omega, by omega⟩ W)
  have K2 := Lib.hid (fun W => of_up q W)
  have K3 := Lib.hid (fun W => div_v (p * n) q hX hQ (by omega) W)
  rw [show hiZ q = 0 by unfold hiZ; omega, show loZ q = q by unfold loZ; omega] at K3
  obtain ⟨t0, t1⟩ := tgZ_in hp hpq hq (show (1 : Int) ≤ n by omega)
  have hd0 : 0 ≤ p * n / q := Int.ediv_nonneg hX.1 (by omega)
  have hm0 := Int.emod_nonneg (p * n) (show q ≠ 0 by omega)
  have hm1 := Int.emod_lt_of_pos (p * n) (show 0 < q by omega)
  have hR : In2 (p * n % q) := ⟨hm0, by omega⟩
  have hz := wd_zero hR
  have hdn : p * n / q ≤ n := by unfold tgZ at t1; split at t1 <;> omega
  have hlo : loZ (p * n / q) = p * n / q := by unfold loZ; omega
  rw [hlo] at K3
  have k1 : IntKind.u64.wrap p = p := by rw [IntKind.wrap_u64]; omega
  have k2 : IntKind.u64.wrap (n : Int) = n := by rw [IntKind.wrap_u64]; omega
  have k3 : IntKind.u64.wrap q = q := by rw [IntKind.wrap_u64]; omega
  have ht : tgZ p q n = if p * n % q = 0 then max 1 (p * n / q) else p * n / q + 1 := rfl
  rw [ht]
  clear ht t0 t1
  generalize hiZ (p * n / q) = dh at *
  generalize hx : p * (n : Int) = X at *
  generalize X / q = d at *
  generalize X % q = r at *
  by_cases hr : r = 0
  · rw [if_pos hr]
    obtain ⟨z0, z1⟩ := hz.2 hr
    rw [z0, z1] at K3
    clear hz z0 z1 hx hX hQ hR hm0 hm1 hlo
    obtain ⟨m, hm⟩ : ∃ m, m = max 1 d := ⟨_, rfl⟩
    rw [← hm]
    have HM := Lib.hid hm
    clear hm hr
    go_enter Try.func64, Try.ntmps64
    go_wp2_with fail
    refine (K1.out _).mono ?_
    rintro e w1 ⟨rfl, hu1⟩
    go_wp2_with fail
    refine (K2.out _).mono ?_
    rintro e w2 ⟨rfl, hu2⟩
    go_wp2_with fail
    refine (K3.out _).mono ?_
    rintro e w3 ⟨rfl, hu3⟩
    go_wp2_with fail
    all_goals
      go_ret
      exact ⟨by rw [HM.out]; first | (rw [show max (1 : Int) d = d by omega]; rfl) | (rw [show max (1 : Int) d = 1 by omega]; rfl), (((hu1.trans hu2).trans hu3).alloc _ _).alloc _ _⟩
  · rw [if_neg hr]
    have hne : (hiZ r == 0 && loZ r == 0) = false := by
      rw [Bool.eq_false_iff]; intro h; simp at h; exact hr (hz.1 h)
    have k4 : IntKind.u64.wrap (d + 1) = d + 1 := by rw [IntKind.wrap_u64]; omega
    generalize hiZ r = rh at *
    generalize loZ r = rl at *
    have t0 : (rh == 0) = false ∨ ((rh == 0) = true ∧ (rl == 0) = false) := by
      cases h1 : (rh == 0)
      · exact Or.inl rfl
      · cases h2 : (rl == 0)
        · exact Or.inr ⟨rfl, rfl⟩
        · rw [h1, h2] at hne; cases hne
    clear hz hx hX hQ hR hm0 hm1 hlo hne hr
    rcases t0 with t0 | ⟨t0, t1⟩
    · go_enter Try.func64, Try.ntmps64
      go_wp2_with fail
      refine (K1.out _).mono ?_
      rintro e w1 ⟨rfl, hu1⟩
      go_wp2_with fail
      refine (K2.out _).mono ?_
      rintro e w2 ⟨rfl, hu2⟩
      go_wp2_with fail
      refine (K3.out _).mono ?_
      rintro e w3 ⟨rfl, hu3⟩
      go_wp2_with fail
      go_ret
      exact ⟨rfl, (((hu1.trans hu2).trans hu3).alloc _ _).alloc _ _⟩
    · go_enter Try.func64, Try.ntmps64
      go_wp2_with fail
      refine (K1.out _).mono ?_
      rintro e w1 ⟨rfl, hu1⟩
      go_wp2_with fail
      refine (K2.out _).mono ?_
      rintro e w2 ⟨rfl, hu2⟩
      go_wp2_with fail
      refine (K3.out _).mono ?_
      rintro e w3 ⟨rfl, hu3⟩
      go_wp2_with fail
      go_ret
      exact ⟨rfl, (((hu1.trans hu2).trans hu3).alloc _ _).alloc _ _⟩

def askB (p q : Int) : Bool := decide (1 ≤ q ∧ 0 ≤ p ∧ p ≤ q)
/-- A sorted list, and the value at a place of it. -/
def srt (L : List It) : List Int := (L.map (·.2)).mergeSort (fun x y => decide (x ≤ y))
theorem srt_perm (L : List It) : (srt L).Perm (L.map (·.2)) := List.mergeSort_perm _ _
theorem srt_len (L : List It) : (srt L).length = L.length := by rw [(srt_perm L).length_eq, List.length_map]
theorem srt_le (L : List It) : (srt L).Pairwise (fun x y => x ≤ y) := by
  have h := List.pairwise_mergeSort (le := fun x y : Int => decide (x ≤ y)) (fun a b c h1 h2 => by simp only [decide_eq_true_eq] at *; omega) (fun a b => by simp only [Bool.or_eq_true, decide_eq_true_eq]; omega) (L.map (·.2))
  exact h.imp (fun h => by simpa using h)
theorem rk_srt (v : Int) (L : List It) : rkN v L = (srt L).countP (fun x => decide (x ≤ v)) := by
  rw [(srt_perm L).countP_eq, List.countP_map]; rfl
theorem bl_srt (v : Int) (L : List It) : blN v L = (srt L).countP (fun x => decide (x < v)) := by
  rw [(srt_perm L).countP_eq, List.countP_map]; rfl
theorem srt_rank {L : List It} {k : Nat} (hk : k < L.length) : blN ((srt L).getD k 0) L ≤ k ∧ k + 1 ≤ rkN ((srt L).getD k 0) L := by
  have hs : k < (srt L).length := by rw [srt_len]; exact hk
  have hp := List.pairwise_iff_getElem.1 (srt_le L)
  have hg : (srt L).getD k 0 = (srt L)[k] := by simp [List.getD, hs]
  rw [hg, rk_srt, bl_srt]
  obtain ⟨v, hv⟩ : ∃ v, v = (srt L)[k] := ⟨_, rfl⟩
  rw [← hv]
  constructor
  · have e : (srt L).countP (fun x => decide (x < v)) = ((srt L).take k).countP (fun x => decide (x < v)) + ((srt L).drop k).countP (fun x => decide (x < v)) := by rw [← List.countP_append, List.take_append_drop]
    have h2 : ((srt L).drop k).countP (fun x => decide (x < v)) = 0 := by
      rw [List.countP_eq_zero]
      intro x hx
      obtain ⟨j, hj, rfl⟩ := List.getElem_of_mem hx
      simp only [List.getElem_drop, decide_eq_true_eq]
      rw [List.length_drop] at hj
      rcases Nat.eq_zero_or_pos j with h0 | h0
      · subst h0; simp [hv]
      · have := hp k (k + j) hs (by omega) (by omega); omega
    have h1 := List.countP_le_length (p := fun x => decide (x < v)) (l := (srt L).take k)
    rw [List.length_take] at h1
    omega
  · have h3 : ((srt L).take (k + 1)).countP (fun x => decide (x ≤ v)) = k + 1 := by
      rw [List.countP_eq_length.2]
      · rw [List.length_take]; omega
      · intro x hx
        obtain ⟨j, hj, rfl⟩ := List.getElem_of_mem hx
        rw [List.length_take] at hj
        simp only [List.getElem_take, decide_eq_true_eq]
        rcases Nat.lt_or_ge j k with h0 | h0
        · rw [hv]; exact hp j k (by omega) hs h0
        · have : j = k := by omega
          subst this; rw [hv]; exact Int.le_refl _
    have := List.Sublist.countP_le (p := fun x => decide (x ≤ v)) (List.take_sublist (k + 1) (srt L))
    omega
theorem rk_mono {u v : Int} (h : u ≤ v) (L : List It) : rkN u L ≤ rkN v L := List.countP_mono_left (fun x _ hx => by simp only [decide_eq_true_eq] at *; omega)
theorem rk_bl {u v : Int} (h : u < v) (L : List It) : rkN u L ≤ blN v L := List.countP_mono_left (fun x _ hx => by simp only [decide_eq_true_eq] at *; omega)
theorem rank_uniq {L : List It} {k : Nat} {y : Int} (hk : k < L.length) (h1 : blN y L < k + 1) (h2 : k + 1 ≤ rkN y L) : y = (srt L).getD k 0 := by
  obtain ⟨a, b⟩ := srt_rank hk
  rcases (by omega : y < (srt L).getD k 0 ∨ (srt L).getD k 0 < y ∨ y = (srt L).getD k 0) with h | h | h
  · have := rk_bl h L; omega
  · have := rk_bl h L; omega
  · exact h
theorem rank_mem {L : List It} {k : Nat} (hk : k < L.length) : ∃ j, j < L.length ∧ (L.getD j (0, 0)).2 = (srt L).getD k 0 := by
  have hs : k < (srt L).length := by rw [srt_len]; exact hk
  have : (srt L).getD k 0 ∈ L.map (·.2) := (srt_perm L).mem_iff.1 (by simp [List.getD, hs])
  obtain ⟨x, hx, e⟩ := List.mem_map.1 this
  obtain ⟨j, hj, rfl⟩ := List.getElem_of_mem hx
  exact ⟨j, hj, by rw [← e]; simp [List.getD, hj]⟩
/-- What Quantile returns. -/
def qnO (L : List It) (p q : Int) : Option Int := if L = [] ∨ askB p q = false then none else some ((srt L).getD ((tgZ p q L.length).toNat - 1) 0)
end Go.Proofs.Ytflahclphdlolaa

/- slices.Sort of numbers, and Quantile of package exact and of its reference. -/
namespace Go.Proofs.Ytflahclphdlolaa
open Go.RowKit Go.Shelf

/-- The numbers of the shelf's functions and types in this program. -/
def srtRen : Go.Shelf.Ren := ⟨fun | 53 => 63 | 59 => 100 | 63 => 83 | 64 => 84 | 68 => 118 | 70 => 94 | 71 => 95 | 72 => 96 | 73 => 97 | 74 => 98 | 75 => 99 | 76 => 101 | 77 => 102 | 78 => 103 | 79 => 104 | 88 => 113 | 89 => 114 | 90 => 115 | 91 => 116 | 92 => 117 | 96 => 123 | n => n, fun | 0 => 0 | 3 => 3 | 4 => 4 | 5 => 5 | 9 => 9 | 22 => 51 | 23 => 2 | 44 => 120 | 51 => 106 | 60 => 114 | 61 => 115 | 67 => 123 | 69 => 52 | 75 => 128 | 79 => 132 | 83 => 139 | 84 => 140 | n => n, fun n => n⟩
set_option maxRecDepth 1000000 in
theorem srtLays : SlLaysN.n53 Try.prog srtRen where
  mixed := by kernel_rfl
  f53 := ⟨ "slices.Sort[[]int64,int64]", by decide, Try.func63.trans (congrArg some (by kernel_rfl))⟩
  f59 := ⟨ "cmp.Less[int64]", by decide, Try.func100.trans (congrArg some (by kernel_rfl))⟩
  f63 := ⟨ "slices.pdqsortOrdered[int64]", by decide, Try.func83.trans (congrArg some (by kernel_rfl))⟩
  f64 := Try.func84.trans (congrArg some (by kernel_rfl))
  f68 := ⟨ "cmp.isNaN[int64]", by decide, Try.func118.trans (congrArg some (by kernel_rfl))⟩
  f70 := ⟨ "slices.insertionSortOrdered[int64]", by decide, Try.func94.trans (congrArg some (by kernel_rfl))⟩
  f71 := ⟨ "slices.heapSortOrdered[int64]", by decide, Try.func95.trans (congrArg some (by kernel_rfl))⟩
  f72 := ⟨ "slices.breakPatternsOrdered[int64]", by decide, Try.func96.trans (congrArg some (by kernel_rfl))⟩
  f73 := ⟨ "slices.choosePivotOrdered[int64]", by decide, Try.func97.trans (congrArg some (by kernel_rfl))⟩
  f74 := ⟨ "slices.reverseRangeOrdered[int64]", by decide, Try.func98.trans (congrArg some (by kernel_rfl))⟩
  f75 := ⟨ "slices.partialInsertionSortOrdered[int64]", by decide, Try.func99.trans (congrArg some (by kernel_rfl))⟩
  f76 := ⟨ "slices.partitionEqualOrdered[int64]", by decide, Try.func101.trans (congrArg some (by kernel_rfl))⟩
  f77 := ⟨ "slices.partitionOrdered[int64]", by decide, Try.func102.trans (congrArg some (by kernel_rfl))⟩
  f78 := Try.func103.trans (congrArg some (by kernel_rfl))
  f79 := Try.func104.trans (congrArg some (by kernel_rfl))
  f88 := ⟨ "slices.siftDownOrdered[int64]", by decide, Try.func113.trans (congrArg some (by kernel_rfl))⟩
  f89 := Try.func114.trans (congrArg some (by kernel_rfl))
  f90 := Try.func115.trans (congrArg some (by kernel_rfl))
  f91 := ⟨ "slices.medianAdjacentOrdered[int64]", by decide, Try.func116.trans (congrArg some (by kernel_rfl))⟩
  f92 := ⟨ "slices.medianOrdered[int64]", by decide, Try.func117.trans (congrArg some (by kernel_rfl))⟩
  f96 := ⟨ "slices.order2Ordered[int64]", by decide, Try.func123.trans (congrArg some (by kernel_rfl))⟩
  t0 := Try.underlying0
  a0 := Try.isAgg0
  z0 := Try.sizeOf0
  v0 := Try.zeroValue0
  t3 := Try.underlying3
  a3 := Try.isAgg3
  z3 := Try.sizeOf3
  v3 := Try.zeroValue3
  t4 := Try.underlying4
  a4 := Try.isAgg4
  z4 := Try.sizeOf4
  v4 := Try.zeroValue4
  t5 := Try.underlying5
  a5 := Try.isAgg5
  z5 := Try.sizeOf5
  v5 := Try.zeroValue5
  t9 := Try.underlying9
  a9 := Try.isAgg9
  z9 := Try.sizeOf9
  v9 := Try.zeroValue9
  t22 := Try.underlying51
  a22 := Try.isAgg51
  z22 := Try.sizeOf51
  v22 := Try.zeroValue51
  t23 := Try.underlying2
  a23 := Try.isAgg2
  z23 := Try.sizeOf2
  v23 := Try.zeroValue2
  t44 := Try.underlying120
  a44 := Try.isAgg120
  z44 := Try.sizeOf120
  v44 := Try.zeroValue120
  t51 := Try.underlying106
  a51 := Try.isAgg106
  z51 := Try.sizeOf106
  v51 := Try.zeroValue106
  t60 := Try.underlying114
  a60 := Try.isAgg114
  z60 := Try.sizeOf114
  v60 := Try.zeroValue114
  t61 := Try.underlying115
  a61 := Try.isAgg115
  z61 := Try.sizeOf115
  v61 := Try.zeroValue115
  t67 := Try.underlying123
  a67 := Try.isAgg123
  z67 := Try.sizeOf123
  v67 := Try.zeroValue123
  t69 := Try.underlying52
  a69 := Try.isAgg52
  z69 := Try.sizeOf52
  v69 := Try.zeroValue52
  t75 := Try.underlying128
  a75 := Try.isAgg128
  z75 := Try.sizeOf128
  v75 := Try.zeroValue128
  t79 := Try.underlying132
  a79 := Try.isAgg132
  z79 := Try.sizeOf132
  v79 := Try.zeroValue132
  t83 := Try.underlying139
  a83 := Try.isAgg139
  z83 := Try.sizeOf139
  v83 := Try.zeroValue139
  t84 := Try.underlying140
  a84 := Try.isAgg140
  z84 := Try.sizeOf140
  v84 := Try.zeroValue140

/-- What was there is as it was; of new blocks nothing is said. -/
def Lo (w w' : World) : Prop := Below w.heap.size w w'
theorem Lo.of_up {w w' : World} (h : Up w w') : Lo w w' := h.below
theorem Lo.up {a b c : World} (h : Lo a b) (k : Up b c) : Lo a c := Below.trans h (k.below.mono (Below.size h))
theorem Lo.keep {w w' : World} (h : Lo w w') : ∀ b o v, w.cell? ⟨b, o, none⟩ = some v → w'.cell? ⟨b, o, none⟩ = some v := fun b o _ hv =>
  (Below.cell h (p := ⟨b, o, none⟩) (World.block_lt_of_cell? w ⟨b, o, none⟩ hv)).trans hv
theorem Sl.lo {w w' : World} {A : Option Addr} {n : Nat} {L : List It} (h : Sl w A n L) (hu : Lo w w') : Sl w' A n L :=
  ⟨h.1, fun hn => by
    obtain ⟨b, o, e, hc⟩ := h.2 hn
    exact ⟨b, o, e, fun j u hj => hu.keep _ _ _ (hc j u hj)⟩⟩

theorem sort_lo (n : Nat) (M : List Int) (hl : M.length = n) (hn : n ≤ 1000000) (g : Nat) (w0 w : World) (hu : Up w0 w) (hg : w0.heap.size ≤ g) (hB : Bn w g M) :
    Calls Try.prog 63 #[.slice (some ⟨g, 0, none⟩) n n] w fun e w' => e = .returned (.tuple #[]) ∧ Bn w' g (M.mergeSort (fun x y => decide (x ≤ y))) ∧ Lo w0 w' := by
  subst hl
  have hH : Go.Sort.Holds (Value.int .i64) w g 0 M.toArray := Go.holds_of_blockI (e := 2) hB (by simp [nl]; exact List.take_of_length_le (by simp))
  have hc := AnyG.slices_Sort_int srtLays g 0 M.length M w hH (Blk.lt hB) (by omega)
  refine hc.mono ?_
  rintro e w' ⟨rfl, m, os, rfl⟩
  have hlen : (M.mergeSort (fun x y => decide (x ≤ y))).length = M.length := List.length_mergeSort _
  refine ⟨rfl, ?_, ?_⟩
  · unfold Bn Blk
    rw [Go.heap_sortedI _ hB]
    congr 2
    apply Array.ext'
    have h1 := Go.take_putCellsI (nl M).toArray (M.mergeSort (fun x y => decide (x ≤ y))) (by rw [hlen]; simp [nl])
    rw [List.take_of_length_le (by rw [hlen]; simp [Go.Sort.putCells, nl])] at h1
    rw [h1]; rfl
  · exact hu.below.grown (Go.grownBy_sortedI _) hu.below.size (fun k hk => by cases hk; exact hg)

set_option maxHeartbeats 8000000 in
set_option maxRecDepth 1000000 in
theorem quantile_lo (n k : Nat) (A : Option Addr) (L : List It) (p q : Int) (hq' : q ≤ 9223372036854775807) (hn : n ≤ 1000000) (w : World) (hS : Sl w A n L) :
    Calls Try.prog 28 #[.slice A n k, .int .i64 p, .int .i64 q] w fun e w' => e = got ((qnO L p q).getD 0) (qnO L p q).isSome ∧ Lo w w' := by
  unfold qnO
  by_cases h0 : n = 0
  · have hL : L = [] := List.length_eq_zero_iff.1 (by rw [hS.1]; exact h0)
    rw [if_pos (Or.inl hL)]
    subst h0
    clear hS hL
    go_enter Try.func28, Try.ntmps28
    go_wp2_with fail
    go_ret2
    exact ⟨rfl, Lo.of_up (Up.refl _)⟩
  have t0 : ((n : Int) == 0) = false := by simp; omega
  have hne : L ≠ [] := fun h => h0 (by rw [← hS.1, h]; rfl)
  by_cases ha : 1 ≤ q ∧ 0 ≤ p ∧ p ≤ q
  case neg =>
    rw [if_pos (Or.inr (show askB p q = false from decide_eq_false ha))]
    clear hS hne
    by_cases h1 : q < 1
    · clear ha
      go_enter Try.func28, Try.ntmps28
      go_wp2_with fail
      go_ret2
      exact ⟨rfl, Lo.of_up (Up.refl _)⟩
    by_cases h2 : p < 0
    · clear ha
      go_enter Try.func28, Try.ntmps28
      go_wp2_with fail
      go_ret2
      exact ⟨rfl, Lo.of_up (Up.refl _)⟩
    have h3 : q < p := by omega
    clear ha
    go_enter Try.func28, Try.ntmps28
    go_wp2_with fail
    go_ret2
    exact ⟨rfl, Lo.of_up (Up.refl _)⟩
  case pos =>
  obtain ⟨a1, a2, a3⟩ := ha
  rw [if_neg (fun h => h.elim hne (fun h => by rw [show askB p q = true from decide_eq_true ⟨a1, a2, a3⟩] at h; cases h))]
  obtain ⟨g1, g2⟩ := tgZ_in a2 a3 a1 (show (1 : Int) ≤ n by omega)
  have KR := Lib.hid (fun W => rankOf_up p q n a2 a3 a1 hq' (by omega) hn W)
  rw [show ((L.length : Nat) : Int) = (n : Int) by rw [hS.1]]
  have hmk := makeN_run n (by omega) w
  have HL := Lib.hid hS.1
  have HS := Lib.hid hS
  generalize tgZ p q (n : Int) = r at *
  obtain ⟨x, hx⟩ : ∃ x, x = (srt L).getD (r.toNat - 1) 0 := ⟨_, rfl⟩
  rw [← hx]
  have HX := Lib.hid hx
  have HB0 := Lib.hid (Bn.new w (List.replicate n 0) w.heap.size rfl)
  clear hS hne hx
  go_enter Try.func28, Try.ntmps28
  go_wp2_with fail
  go_loopw [32] (fun t wr => ∃ (i : Nat) (M : List Int), t = .int .i64 i ∧ i ≤ n ∧ Hid (M.length = n) ∧ Hid (∀ j, j < i → M.getD j 0 = (L.getD j (0, 0)).2) ∧ Bn wr w.heap.size M ∧ Up w wr) (fun t _ => n - (intOf t).toNat)
  case atStart => exact ⟨0, List.replicate n 0, rfl, Nat.zero_le _, Lib.hid (by simp), Lib.hid (fun j hj => absurd hj (Nat.not_lt_zero _)), HB0.out, (Up.refl w).alloc _ _⟩
  case round =>
    obtain ⟨i, M, rfl, hin, HM, HV, hB, hU⟩ := hrel
    have HU := Lib.hid hU
    have HB := Lib.hid hB
    by_cases hi : i < n
    · obtain ⟨b, o, rfl, d0, d1⟩ := (HS.out.up HU.out).at_ hi
      have c0 := hB.at_ (show i < M.length by rw [HM.out]; exact hi)
      have z0 := Blk.frozen hB i
      have HV1 : Hid (∀ j, j < i + 1 → (M.set i (L.getD i (0, 0)).2).getD j 0 = (L.getD j (0, 0)).2) := Lib.hid (fun j hj => by
        rcases Nat.lt_or_ge j i with h | h
        · have := HV.out j h
          rw [← this]; simp [List.getD, show ¬ i = j by omega]
        · obtain rfl : j = i := by omega
          simp [List.getD, show j < M.length by rw [HM.out]; exact hi])
      have HM1 : Hid ((M.set i (L.getD i (0, 0)).2).length = n) := Lib.hid (by rw [List.length_set]; exact HM.out)
      generalize M.getD i 0 = old at *
      generalize hp1 : (L.getD i (0, 0)).2 = p1 at *
      generalize (L.getD i (0, 0)).1 = p0 at *
      have f2 : (i : Int) < n := by omega
      have f3 : (0 : Int) ≤ i := by omega
      have lb : w.heap.size < wr.heap.size := Blk.lt hB
      clear hB hU hmk HV HM hp1
      go_wp2_with fail
      go_roundw
      case rel => exact ⟨i + 1, _, by go_num, by omega, HM1, HV1, Blk.alloc (HB.out.set_ i p1) _, (HU.out.setCell (Nat.le_refl _) _).alloc _ _⟩
      case measure => simp [intOf]; omega
    · obtain rfl : i = n := by omega
      have hM : M = L.map (·.2) := by
        apply List.ext_getElem (by rw [HM.out, List.length_map, HL.out])
        intro j h1 h2
        have := HV.out j (by rw [← HM.out]; exact h1)
        simp only [List.length_map] at h2
        simpa [List.getD, h1, h2] using this
      have KS := Lib.hid (sort_lo i M HM.out hn w.heap.size w wr hU (Nat.le_refl _) hB)
      rw [hM] at KS
      have hs : (L.map (·.2)).mergeSort (fun x y => decide (x ≤ y)) = srt L := rfl
      rw [hs] at KS
      clear hB hU hmk HV HM hM hs HB
      go_wp2_with fail
      refine KS.out.mono ?_
      rintro e w2 ⟨rfl, hB2, hLo⟩
      have HB2 := Lib.hid hB2
      have HLo := Lib.hid hLo
      clear hB2 hLo KS
      go_wp2_with fail
      refine (KR.out _).mono ?_
      rintro e w3 ⟨rfl, hu3⟩
      have hB3 := HB2.out.up hu3
      have hc := hB3.at_ (show r.toNat - 1 < (srt L).length by rw [srt_len, HL.out]; omega)
      rw [← HX.out] at hc
      have k1 : IntKind.u64.wrap (r - 1) = r - 1 := by rw [IntKind.wrap_u64]; omega
      have k2 : (r - 1).toNat = r.toNat - 1 := by omega
      have k3 : 0 ≤ r - 1 := by omega
      have k4 : r - 1 < (i : Int) := by omega
      have HL3 := Lib.hid (HLo.out.up hu3)
      clear hB3 hu3 HB2
      go_wp2_with fail
      go_ret2
      exact ⟨rfl, HL3.out⟩

end Go.Proofs.Ytflahclphdlolaa

/- The end of a law's proof where new blocks are not known to be unfrozen: only old memory is spoken of. -/
namespace Go.Proofs.Ytflahclphdlolaa
open Go.ChangeShapes Go.WideShapes Go.ChangeAt Go.RowKit Go.Joins Go.Deep

section
variable {H : Type} {enc : TypeId × Value → H}
theorem stayLo {t : TypeId} (hr : Try.prog.readableRec t = true) (hrow : t < Try.prog.types.size) {W W' : World} {v : Value} {d : DataW H} {ps before : List MemPlace} {sp : Nat → Bool}
    (h : DataW.Trod enc Try.prog W 0 (fun _ => true) true t v d ps) (hu : Lo W W') (hlt : ∀ x ∈ before, x.block < W.heap.size) (hsub : ∀ x ∈ ps, x ∈ before) (hsp : ∀ x ∈ before, sp x.block = true) :
    DataW.Trod enc Try.prog W' 0 sp true t v d ps :=
  WideElems.Trod_stays laid_out hr hrow h (fun x hx => Below.same hu (hlt x (hsub x hx))) (fun x hx => hsp x (hsub x hx))
theorem Lo.kept {W W' : World} (h : Lo W W') (may : MemPlace → Prop) : W.keptBut W' may := by
  refine ⟨Below.os h, Below.output h, fun i hi => ?_⟩
  rw [Below.block h i hi]
  cases hw : W.heap[i]? with
  | none => rfl
  | some o => cases o with
    | cells c t fr => exact ⟨rfl, rfl, rfl, fun _ _ => rfl⟩
    | map es cl => exact Or.inr ⟨rfl, rfl⟩
    | _ => rfl
theorem Lo.frozen {W W' : World} (h : Lo W W') (a : Addr) (ha : a.block < W.heap.size) : W'.frozen? a = W.frozen? a := by
  simp only [World.frozen?, Below.block h a.block ha]
theorem post_lo {P : Program} {f : Func} {s : ChangeSpec} {apart fresh handsOn again : Bool} {W W' : World} {args : Array Value} {v : Value} {ds gs : List (DataW H)} {before pa : List MemPlace} (hg : Lo W W')
    (hW : DataW.Whole enc P f.params.toList s.vars apart W args.toList ds gs before)
    (hres : ∀ (b : Nat) (sp : Nat → Bool) (hd : Bool), DataW.TrodAll enc P W' b sp hd f.resultTypes.toList (v.resultList f.resultTypes.size) (s.fn H (ds ++ gs)).results [])
    (hargs : ∀ sp : Nat → Bool, (∀ p ∈ before, sp p.block = true) → DataW.TrodAll enc P W' 0 sp true f.params.toList args.toList (s.fn H (ds ++ gs)).args pa)
    (hvars : ∀ sp : Nat → Bool, DataW.TrodVars enc P W' sp s.vars (s.fn H (ds ++ gs)).vars [])
    (hps : before = pa) (hok : ∀ (j : Nat) (t : TypeId) (r : Value), f.resultTypes[j]? = some t → (v.resultList f.resultTypes.size)[j]? = some r → Value.okWide P W' .any 0 t r) :
    s.post enc P f apart fresh handsOn again W args v W' := by
  subst hps
  have hb : ∀ p ∈ before, p.block < W.heap.size := fun p hp => hW.lt p hp
  have hW2 := hW
  obtain ⟨_, _, _, _, _, hz, hn⟩ := hW2
  refine ⟨ds, gs, before, [], before, [], hW, hres _ _ _, hargs _ (fun p hp => decide_eq_true (hb p hp)), hvars _, World.keptBut_mono (fun p hp => ⟨hp, Or.inr (Or.inl hp)⟩) (hg.kept (· ∈ before)), fun _ => ⟨hok, _, _, ([] ++ before) ++ [], ⟨[] ++ before, [], trodAll_append (hargs _ (fun _ _ => rfl)) (hres _ _ _), hvars _, rfl, fun b off hp => ?_, fun ha => ?_⟩, fun p hp _ => by simpa using hp⟩⟩
  · have hm : MemPlace.cell b off ∈ before := by simpa using hp
    rw [hg.frozen ⟨b, off, none⟩ (hb _ hm)]
    exact hz b off hm
  · have := hn ha
    simpa using this
end
end Go.Proofs.Ytflahclphdlolaa
