/- slices.Sort of numbers, and Quantile of package exact and of its reference. -/
import Derived.Shelf.SortG.Plain
import Derived.Sort.OwnSortedInts
import Derived.Test.YtflahclphdlolaaGreatZEQnt
import Derived.Test.YtflahclphdlolaaGreatZEWords
import Derived.Test.YtflahclphdlolaaGreatZG0a
import Derived.Test.YtflahclphdlolaaGreatZG2a
import Derived.Test.YtflahclphdlolaaGreatZG5a
namespace Go.Proofs.YtflahclphdlolaaGreat
open Go.RowKit Go.Shelf

/-- The numbers of the shelf's functions and types in this program. -/
def srtRen : Go.Shelf.Ren := ⟨fun | 53 => 76 | 59 => 110 | 63 => 94 | 64 => 95 | 68 => 121 | 70 => 104 | 71 => 105 | 72 => 106 | 73 => 107 | 74 => 108 | 75 => 109 | 76 => 111 | 77 => 112 | 78 => 113 | 79 => 114 | 88 => 116 | 89 => 117 | 90 => 118 | 91 => 119 | 92 => 120 | 96 => 122 | n => n, fun | 0 => 0 | 3 => 3 | 4 => 4 | 5 => 5 | 9 => 9 | 22 => 33 | 23 => 2 | 44 => 125 | 51 => 113 | 60 => 120 | 61 => 121 | 67 => 128 | 69 => 34 | 75 => 132 | 79 => 136 | 83 => 138 | 84 => 139 | n => n, fun n => n⟩
set_option maxRecDepth 1000000 in
theorem srtLays : SlLaysN.n53 Tryz.prog srtRen where
  mixed := by kernel_rfl
  f53 := ⟨ "slices.Sort[[]int64,int64]", by decide, Tryz.func76.trans (congrArg some (by kernel_rfl))⟩
  f59 := ⟨ "cmp.Less[int64]", by decide, Tryz.func110.trans (congrArg some (by kernel_rfl))⟩
  f63 := ⟨ "slices.pdqsortOrdered[int64]", by decide, Tryz.func94.trans (congrArg some (by kernel_rfl))⟩
  f64 := Tryz.func95.trans (congrArg some (by kernel_rfl))
  f68 := ⟨ "cmp.isNaN[int64]", by decide, Tryz.func121.trans (congrArg some (by kernel_rfl))⟩
  f70 := ⟨ "slices.insertionSortOrdered[int64]", by decide, Tryz.func104.trans (congrArg some (by kernel_rfl))⟩
  f71 := ⟨ "slices.heapSortOrdered[int64]", by decide, Tryz.func105.trans (congrArg some (by kernel_rfl))⟩
  f72 := ⟨ "slices.breakPatternsOrdered[int64]", by decide, Tryz.func106.trans (congrArg some (by kernel_rfl))⟩
  f73 := ⟨ "slices.choosePivotOrdered[int64]", by decide, Tryz.func107.trans (congrArg some (by kernel_rfl))⟩
  f74 := ⟨ "slices.reverseRangeOrdered[int64]", by decide, Tryz.func108.trans (congrArg some (by kernel_rfl))⟩
  f75 := ⟨ "slices.partialInsertionSortOrdered[int64]", by decide, Tryz.func109.trans (congrArg some (by kernel_rfl))⟩
  f76 := ⟨ "slices.partitionEqualOrdered[int64]", by decide, Tryz.func111.trans (congrArg some (by kernel_rfl))⟩
  f77 := ⟨ "slices.partitionOrdered[int64]", by decide, Tryz.func112.trans (congrArg some (by kernel_rfl))⟩
  f78 := Tryz.func113.trans (congrArg some (by kernel_rfl))
  f79 := Tryz.func114.trans (congrArg some (by kernel_rfl))
  f88 := ⟨ "slices.siftDownOrdered[int64]", by decide, Tryz.func116.trans (congrArg some (by kernel_rfl))⟩
  f89 := Tryz.func117.trans (congrArg some (by kernel_rfl))
  f90 := Tryz.func118.trans (congrArg some (by kernel_rfl))
  f91 := ⟨ "slices.medianAdjacentOrdered[int64]", by decide, Tryz.func119.trans (congrArg some (by kernel_rfl))⟩
  f92 := ⟨ "slices.medianOrdered[int64]", by decide, Tryz.func120.trans (congrArg some (by kernel_rfl))⟩
  f96 := ⟨ "slices.order2Ordered[int64]", by decide, Tryz.func122.trans (congrArg some (by kernel_rfl))⟩
  t0 := Tryz.underlying0
  a0 := Tryz.isAgg0
  z0 := Tryz.sizeOf0
  v0 := Tryz.zeroValue0
  t3 := Tryz.underlying3
  a3 := Tryz.isAgg3
  z3 := Tryz.sizeOf3
  v3 := Tryz.zeroValue3
  t4 := Tryz.underlying4
  a4 := Tryz.isAgg4
  z4 := Tryz.sizeOf4
  v4 := Tryz.zeroValue4
  t5 := Tryz.underlying5
  a5 := Tryz.isAgg5
  z5 := Tryz.sizeOf5
  v5 := Tryz.zeroValue5
  t9 := Tryz.underlying9
  a9 := Tryz.isAgg9
  z9 := Tryz.sizeOf9
  v9 := Tryz.zeroValue9
  t22 := Tryz.underlying33
  a22 := Tryz.isAgg33
  z22 := Tryz.sizeOf33
  v22 := Tryz.zeroValue33
  t23 := Tryz.underlying2
  a23 := Tryz.isAgg2
  z23 := Tryz.sizeOf2
  v23 := Tryz.zeroValue2
  t44 := Tryz.underlying125
  a44 := Tryz.isAgg125
  z44 := Tryz.sizeOf125
  v44 := Tryz.zeroValue125
  t51 := Tryz.underlying113
  a51 := Tryz.isAgg113
  z51 := Tryz.sizeOf113
  v51 := Tryz.zeroValue113
  t60 := Tryz.underlying120
  a60 := Tryz.isAgg120
  z60 := Tryz.sizeOf120
  v60 := Tryz.zeroValue120
  t61 := Tryz.underlying121
  a61 := Tryz.isAgg121
  z61 := Tryz.sizeOf121
  v61 := Tryz.zeroValue121
  t67 := Tryz.underlying128
  a67 := Tryz.isAgg128
  z67 := Tryz.sizeOf128
  v67 := Tryz.zeroValue128
  t69 := Tryz.underlying34
  a69 := Tryz.isAgg34
  z69 := Tryz.sizeOf34
  v69 := Tryz.zeroValue34
  t75 := Tryz.underlying132
  a75 := Tryz.isAgg132
  z75 := Tryz.sizeOf132
  v75 := Tryz.zeroValue132
  t79 := Tryz.underlying136
  a79 := Tryz.isAgg136
  z79 := Tryz.sizeOf136
  v79 := Tryz.zeroValue136
  t83 := Tryz.underlying138
  a83 := Tryz.isAgg138
  z83 := Tryz.sizeOf138
  v83 := Tryz.zeroValue138
  t84 := Tryz.underlying139
  a84 := Tryz.isAgg139
  z84 := Tryz.sizeOf139
  v84 := Tryz.zeroValue139

/-- What was there is as it was; of new blocks nothing is said. -/
def Lo (w w' : World) : Prop := Below w.heap.size w w'
theorem Lo.of_up {w w' : World} (h : Up w w') : Lo w w' := h.below
theorem Lo.up {a b c : World} (h : Lo a b) (k : Up b c) : Lo a c := Below.trans h (k.below.mono (Below.size h))
theorem Lo.keep {w w' : World} (h : Lo w w') : ∀ b o v, w.cell? ⟨b, o, none⟩ = some v → w'.cell? ⟨b, o, none⟩ = some v := fun b o _ hv =>
  (Below.cell h (p := ⟨b, o, none⟩) (World.block_lt_of_cell? w ⟨b, o, none⟩ hv)).trans hv
theorem Sl.lo {w w' : World} {A : Option Addr} {n : Nat} {L : List It} (h : Sl w A n L) (hu : Lo w w') : Sl w' A n L :=
  ⟨h.1, fun hn => by
    obtain ⟨b, o, e, hc⟩ := h.2 hn
    exact ⟨b, o, e, fun j u hj => hu.keep _ _ _ (hc j u hj)⟩⟩

theorem sort_lo (n : Nat) (M : List Int) (hl : M.length = n) (hn : n ≤ 1000000) (g : Nat) (w0 w : World) (hu : Up w0 w) (hg : w0.heap.size ≤ g) (hB : Bn w g M) :
    Calls Tryz.prog 76 #[.slice (some ⟨g, 0, none⟩) n n] w fun e w' => e = .returned (.tuple #[]) ∧ Bn w' g (M.mergeSort (fun x y => decide (x ≤ y))) ∧ Lo w0 w' := by
  subst hl
  have hH : Go.Sort.Holds (Value.int .i64) w g 0 M.toArray := Go.holds_of_blockI (e := 2) hB (by simp [nl]; exact List.take_of_length_le (by simp))
  have hc := AnyG.slices_Sort_int srtLays g 0 M.length M w hH (Blk.lt hB) (by omega)
  refine hc.mono ?_
  rintro e w' ⟨rfl, m, os, rfl⟩
  have hlen : (M.mergeSort (fun x y => decide (x ≤ y))).length = M.length := List.length_mergeSort _
  refine ⟨rfl, ?_, ?_⟩
  · unfold Bn Blk
    rw [Go.heap_sortedI _ hB]
    congr 2
    apply Array.ext'
    have h1 := Go.take_putCellsI (nl M).toArray (M.mergeSort (fun x y => decide (x ≤ y))) (by rw [hlen]; simp [nl])
    rw [List.take_of_length_le (by rw [hlen]; simp [Go.Sort.putCells, nl])] at h1
    rw [h1]; rfl
  · exact hu.below.grown (Go.grownBy_sortedI _) hu.below.size (fun k hk => by cases hk; exact hg)

set_option maxHeartbeats 8000000 in
set_option maxRecDepth 1000000 in
theorem quantile_lo (n k : Nat) (A : Option Addr) (L : List It) (p q : Int) (hq' : q ≤ 9223372036854775807) (hn : n ≤ 1000000) (w : World) (hS : Sl w A n L) :
    Calls Tryz.prog 50 #[.slice A n k, .int .i64 p, .int .i64 q] w fun e w' => e = got ((qnO L p q).getD 0) (qnO L p q).isSome ∧ Lo w w' := by
  unfold qnO
  by_cases h0 : n = 0
  · have hL : L = [] := List.length_eq_zero_iff.1 (by rw [hS.1]; exact h0)
    rw [if_pos (Or.inl hL)]
    subst h0
    clear hS hL
    go_enter Tryz.func50, Tryz.ntmps50
    go_wp2_with fail
    go_ret2
    exact ⟨rfl, Lo.of_up (Up.refl _)⟩
  have t0 : ((n : Int) == 0) = false := by simp; omega
  have hne : L ≠ [] := fun h => h0 (by rw [← hS.1, h]; rfl)
  by_cases ha : 1 ≤ q ∧ 0 ≤ p ∧ p ≤ q
  case neg =>
    rw [if_pos (Or.inr (show askB p q = false from decide_eq_false ha))]
    clear hS hne
    by_cases h1 : q < 1
    · clear ha
      go_enter Tryz.func50, Tryz.ntmps50
      go_wp2_with fail
      go_ret2
      exact ⟨rfl, Lo.of_up (Up.refl _)⟩
    by_cases h2 : p < 0
    · clear ha
      go_enter Tryz.func50, Tryz.ntmps50
      go_wp2_with fail
      go_ret2
      exact ⟨rfl, Lo.of_up (Up.refl _)⟩
    have h3 : q < p := by omega
    clear ha
    go_enter Tryz.func50, Tryz.ntmps50
    go_wp2_with fail
    go_ret2
    exact ⟨rfl, Lo.of_up (Up.refl _)⟩
  case pos =>
  obtain ⟨a1, a2, a3⟩ := ha
  rw [if_neg (fun h => h.elim hne (fun h => by rw [show askB p q = true from decide_eq_true ⟨a1, a2, a3⟩] at h; cases h))]
  obtain ⟨g1, g2⟩ := tgZ_in a2 a3 a1 (show (1 : Int) ≤ n by omega)
  have KR := Lib.hid (fun W => rankOf_up p q n a2 a3 a1 hq' (by omega) hn W)
  rw [show ((L.length : Nat) : Int) = (n : Int) by rw [hS.1]]
  have hmk := makeN_run n (by omega) w
  have HL := Lib.hid hS.1
  have HS := Lib.hid hS
  generalize tgZ p q (n : Int) = r at *
  obtain ⟨x, hx⟩ : ∃ x, x = (srt L).getD (r.toNat - 1) 0 := ⟨_, rfl⟩
  rw [← hx]
  have HX := Lib.hid hx
  have HB0 := Lib.hid (Bn.new w (List.replicate n 0) w.heap.size rfl)
  clear hS hne hx
  go_enter Tryz.func50, Tryz.ntmps50
  go_wp2_with fail
  go_loopw [32] (fun t wr => ∃ (i : Nat) (M : List Int), t = .int .i64 i ∧ i ≤ n ∧ Hid (M.length = n) ∧ Hid (∀ j, j < i → M.getD j 0 = (L.getD j (0, 0)).2) ∧ Bn wr w.heap.size M ∧ Up w wr) (fun t _ => n - (intOf t).toNat)
  case atStart => exact ⟨0, List.replicate n 0, rfl, Nat.zero_le _, Lib.hid (by simp), Lib.hid (fun j hj => absurd hj (Nat.not_lt_zero _)), HB0.out, (Up.refl w).alloc _ _⟩
  case round =>
    obtain ⟨i, M, rfl, hin, HM, HV, hB, hU⟩ := hrel
    have HU := Lib.hid hU
    have HB := Lib.hid hB
    by_cases hi : i < n
    · obtain ⟨b, o, rfl, d0, d1⟩ := (HS.out.up HU.out).at_ hi
      have c0 := hB.at_ (show i < M.length by rw [HM.out]; exact hi)
      have z0 := Blk.frozen hB i
      have HV1 : Hid (∀ j, j < i + 1 → (M.set i (L.getD i (0, 0)).2).getD j 0 = (L.getD j (0, 0)).2) := Lib.hid (fun j hj => by
        rcases Nat.lt_or_ge j i with h | h
        · have := HV.out j h
          rw [← this]; simp [List.getD, show ¬ i = j by omega]
        · obtain rfl : j = i := by omega
          simp [List.getD, show j < M.length by rw [HM.out]; exact hi])
      have HM1 : Hid ((M.set i (L.getD i (0, 0)).2).length = n) := Lib.hid (by rw [List.length_set]; exact HM.out)
      generalize M.getD i 0 = old at *
      generalize hp1 : (L.getD i (0, 0)).2 = p1 at *
      generalize (L.getD i (0, 0)).1 = p0 at *
      have f2 : (i : Int) < n := by omega
      have f3 : (0 : Int) ≤ i := by omega
      have lb : w.heap.size < wr.heap.size := Blk.lt hB
      clear hB hU hmk HV HM hp1
      go_wp2_with fail
      go_roundw
      case rel => exact ⟨i + 1, _, by go_num, by omega, HM1, HV1, Blk.alloc (HB.out.set_ i p1) _, (HU.out.setCell (Nat.le_refl _) _).alloc _ _⟩
      case measure => simp [intOf]; omega
    · obtain rfl : i = n := by omega
      have hM : M = L.map (·.2) := by
        apply List.ext_getElem (by rw [HM.out, List.length_map, HL.out])
        intro j h1 h2
        have := HV.out j (by rw [← HM.out]; exact h1)
        simp only [List.length_map] at h2
        simpa [List.getD, h1, h2] using this
      have KS := Lib.hid (sort_lo i M HM.out hn w.heap.size w wr hU (Nat.le_refl _) hB)
      rw [hM] at KS
      have hs : (L.map (·.2)).mergeSort (fun x y => decide (x ≤ y)) = srt L := rfl
      rw [hs] at KS
      clear hB hU hmk HV HM hM hs HB
      go_wp2_with fail
      refine KS.out.mono ?_
      rintro e w2 ⟨rfl, hB2, hLo⟩
      have HB2 := Lib.hid hB2
      have HLo := Lib.hid hLo
      clear hB2 hLo KS
      go_wp2_with fail
      refine (KR.out _).mono ?_
      rintro e w3 ⟨rfl, hu3⟩
      have hB3 := HB2.out.up hu3
      have hc := hB3.at_ (show r.toNat - 1 < (srt L).length by rw [srt_len, HL.out]; omega)
      rw [← HX.out] at hc
      have k1 : IntKind.u64.wrap (r - 1) = r - 1 := by rw [IntKind.wrap_u64]; omega
      have k2 : (r - 1).toNat = r.toNat - 1 := by omega
      have k3 : 0 ≤ r - 1 := by omega
      have k4 : r - 1 < (i : Int) := by omega
      have HL3 := Lib.hid (HLo.out.up hu3)
      clear hB3 hu3 HB2
      go_wp2_with fail
      go_ret2
      exact ⟨rfl, HL3.out⟩

set_option maxHeartbeats 8000000 in
set_option maxRecDepth 1000000 in
theorem rquantile_up (n k : Nat) (A : Option Addr) (L : List It) (p q : Int) (hq' : q ≤ 9223372036854775807) (hn : n ≤ 1000000) (w : World) (hS : Sl w A n L) :
    Calls Tryz.prog 31 #[.slice A n k, .int .i64 p, .int .i64 q] w fun e w' => e = got ((qnO L p q).getD 0) (qnO L p q).isSome ∧ Up w w' := by
  unfold qnO
  have KA := Lib.hid (asks_any p q)
  by_cases h0 : n = 0
  · have hL : L = [] := List.length_eq_zero_iff.1 (by rw [hS.1]; exact h0)
    rw [if_pos (Or.inl hL)]
    subst h0
    clear hS hL
    go_enter Tryz.func31, Tryz.ntmps31
    go_wp2_with fail
    go_ret2
    exact ⟨rfl, Up.refl _⟩
  have t0 : ((n : Int) == 0) = false := by simp; omega
  have hne : L ≠ [] := fun h => h0 (by rw [← hS.1, h]; rfl)
  by_cases ha : 1 ≤ q ∧ 0 ≤ p ∧ p ≤ q
  case neg =>
    have hb : askB p q = false := decide_eq_false ha
    rw [if_pos (Or.inr hb)]
    rw [hb] at KA
    clear hS hne ha hb
    go_enter Tryz.func31, Tryz.ntmps31
    go_wp2_with fail
    refine (KA.out _).mono ?_
    rintro e w' ⟨rfl, rfl⟩
    go_wp2_with fail
    go_ret2
    exact ⟨rfl, Up.refl _⟩
  case pos =>
  obtain ⟨a1, a2, a3⟩ := ha
  have hb : askB p q = true := decide_eq_true ⟨a1, a2, a3⟩
  rw [if_neg (fun h => h.elim hne (fun h => by rw [hb] at h; cases h))]
  rw [hb] at KA
  obtain ⟨g1, g2⟩ := tgZ_in a2 a3 a1 (show (1 : Int) ≤ n by omega)
  have KR := Lib.hid (fun W => target_up p q n a2 a3 a1 hq' (by omega) hn W)
  rw [show ((L.length : Nat) : Int) = (n : Int) by rw [hS.1]]
  have HL := Lib.hid hS.1
  have HS := Lib.hid hS
  generalize tgZ p q (n : Int) = r at *
  obtain ⟨x, hx⟩ : ∃ x, x = (srt L).getD (r.toNat - 1) 0 := ⟨_, rfl⟩
  rw [← hx]
  have HX := Lib.hid hx
  have hkl : r.toNat - 1 < L.length := by rw [hS.1]; omega
  have HU1 : Hid (∀ y, (blN y L : Int) < r → r ≤ (rkN y L : Int) → x = y) := Lib.hid (fun y h1 h2 => by rw [hx]; exact (rank_uniq hkl (by omega) (by omega)).symm)
  have HE : Hid (∃ j, j < n ∧ (blN (L.getD j (0, 0)).2 L : Int) < r ∧ r ≤ (rkN (L.getD j (0, 0)).2 L : Int)) := Lib.hid (by
    obtain ⟨j, hj, e⟩ := rank_mem hkl
    obtain ⟨s1, s2⟩ := srt_rank hkl
    exact ⟨j, by rw [← hS.1]; exact hj, by rw [e]; omega, by rw [e]; omega⟩)
  clear hS hne hx hkl hb
  go_enter Tryz.func31, Tryz.ntmps31
  go_wp2_with fail
  refine (KA.out _).mono ?_
  rintro e w' ⟨rfl, rfl⟩
  go_wp2_with fail
  refine (KR.out _).mono ?_
  rintro e w1 ⟨rfl, hu1⟩
  have HW1 := Lib.hid hu1
  clear hu1
  go_wp2_with fail
  go_loopw [27] (fun t wr => ∃ i : Nat, t = .int .i64 i ∧ i ≤ n ∧ Hid (∀ j, j < i → ¬ ((blN (L.getD j (0, 0)).2 L : Int) < r ∧ r ≤ (rkN (L.getD j (0, 0)).2 L : Int))) ∧ Up w wr) (fun t _ => n - (intOf t).toNat)
  case atStart => exact ⟨0, rfl, Nat.zero_le _, Lib.hid (fun j hj => absurd hj (Nat.not_lt_zero _)), HW1.out⟩
  case round =>
    obtain ⟨i, rfl, hin, HG, hU⟩ := hrel
    have HU := Lib.hid hU
    clear hU
    by_cases hi : i < n
    · obtain ⟨b, o, rfl, d0, d1⟩ := (HS.out.up HU.out).at_ hi
      have HY := Lib.hid (HU1.out (L.getD i (0, 0)).2)
      have HG1 : Hid (¬ ((blN (L.getD i (0, 0)).2 L : Int) < r ∧ r ≤ (rkN (L.getD i (0, 0)).2 L : Int)) → ∀ j, j < i + 1 → ¬ ((blN (L.getD j (0, 0)).2 L : Int) < r ∧ r ≤ (rkN (L.getD j (0, 0)).2 L : Int))) := Lib.hid (fun hx j hj => by
        rcases Nat.lt_or_ge j i with h | h
        · exact HG.out j h
        · obtain rfl : j = i := by omega
          exact hx)
      generalize (L.getD i (0, 0)).1 = p0 at *
      generalize (L.getD i (0, 0)).2 = p1 at *
      have K1 := Lib.hid (fun W (h : Up w W) => rbelow_up n k _ L p1 hn W (HS.out.up h))
      have K2 := Lib.hid (fun W (h : Up w W) => rrank_up n k _ L p1 hn W (HS.out.up h))
      generalize ((blN p1 L : Nat) : Int) = bl at *
      generalize ((rkN p1 L : Nat) : Int) = rk at *
      have f2 : (i : Int) < n := by omega
      have f3 : (0 : Int) ≤ i := by omega
      have HUa := Lib.hid (HU.out.alloc #[.int .i64 p0, .int .i64 p1] 70)
      clear HG
      by_cases hb1 : bl < r
      · by_cases hb2 : r ≤ rk
        · obtain rfl : x = p1 := HY.out hb1 hb2
          clear HY HG1 HX
          go_wp2_with fail
          refine (K1.out _ HUa.out).mono ?_
          rintro e w2 ⟨rfl, hu2⟩
          have c1 := hu2.keep wr.heap.size 1 (.int .i64 x) (by simp [go_sem])
          have HU2 := Lib.hid (HUa.out.trans hu2)
          clear hu2
          go_wp2_with fail
          refine (K2.out _ HU2.out).mono ?_
          rintro e w3 ⟨rfl, hu3⟩
          have c2 := hu3.keep _ _ _ c1
          have HU3 := Lib.hid (HU2.out.trans hu3)
          clear hu3
          go_wp2_with fail
          go_ret2
          exact ⟨rfl, HU3.out⟩
        · have HG2 := Lib.hid (HG1.out (fun h => hb2 h.2))
          clear HY HG1 HX
          go_wp2_with fail
          refine (K1.out _ HUa.out).mono ?_
          rintro e w2 ⟨rfl, hu2⟩
          have c1 := hu2.keep wr.heap.size 1 (.int .i64 p1) (by simp [go_sem])
          have HU2 := Lib.hid (HUa.out.trans hu2)
          clear hu2
          go_wp2_with fail
          refine (K2.out _ HU2.out).mono ?_
          rintro e w3 ⟨rfl, hu3⟩
          have HU3 := Lib.hid (HU2.out.trans hu3)
          clear hu3
          go_wp2_with fail
          go_roundw
          case rel => exact ⟨i + 1, by go_num, by omega, HG2, HU3.out⟩
          case measure => simp [intOf]; omega
      · have HG2 := Lib.hid (HG1.out (fun h => hb1 h.1))
        clear HY HG1 HX
        go_wp2_with fail
        refine (K1.out _ HUa.out).mono ?_
        rintro e w2 ⟨rfl, hu2⟩
        have HU2 := Lib.hid (HUa.out.trans hu2)
        clear hu2
        go_wp2_with fail
        go_roundw
        case rel => exact ⟨i + 1, by go_num, by omega, HG2, HU2.out⟩
        case measure => simp [intOf]; omega
    · obtain ⟨j, hj, h1, h2⟩ := HE.out
      exact absurd ⟨h1, h2⟩ (HG.out j (by omega))
end Go.Proofs.YtflahclphdlolaaGreat
