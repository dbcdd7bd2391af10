/- slices.Sort of numbers, and Quantile of package exact and of its reference. -/
import Derived.Shelf.SortG.Plain
import Derived.Sort.OwnSortedInts
import Derived.Test.YtflahclphdlolaaZEQnt
import Derived.Test.YtflahclphdlolaaZEWords
import Derived.Test.YtflahclphdlolaaZG0a
import Derived.Test.YtflahclphdlolaaZG2a
namespace Go.Proofs.Ytflahclphdlolaa
open Go.RowKit Go.Shelf

/-- The numbers of the shelf's functions and types in this program. -/
def srtRen : Go.Shelf.Ren := ⟨fun | 53 => 63 | 59 => 100 | 63 => 83 | 64 => 84 | 68 => 118 | 70 => 94 | 71 => 95 | 72 => 96 | 73 => 97 | 74 => 98 | 75 => 99 | 76 => 101 | 77 => 102 | 78 => 103 | 79 => 104 | 88 => 113 | 89 => 114 | 90 => 115 | 91 => 116 | 92 => 117 | 96 => 123 | n => n, fun | 0 => 0 | 3 => 3 | 4 => 4 | 5 => 5 | 9 => 9 | 22 => 51 | 23 => 2 | 44 => 120 | 51 => 106 | 60 => 114 | 61 => 115 | 67 => 123 | 69 => 52 | 75 => 128 | 79 => 132 | 83 => 139 | 84 => 140 | n => n, fun n => n⟩
set_option maxRecDepth 1000000 in
theorem srtLays : SlLaysN.n53 Try.prog srtRen where
  mixed := by kernel_rfl
  f53 := ⟨ "slices.Sort[[]int64,int64]", by decide, Try.func63.trans (congrArg some (by kernel_rfl))⟩
  f59 := ⟨ "cmp.Less[int64]", by decide, Try.func100.trans (congrArg some (by kernel_rfl))⟩
  f63 := ⟨ "slices.pdqsortOrdered[int64]", by decide, Try.func83.trans (congrArg some (by kernel_rfl))⟩
  f64 := Try.func84.trans (congrArg some (by kernel_rfl))
  f68 := ⟨ "cmp.isNaN[int64]", by decide, Try.func118.trans (congrArg some (by kernel_rfl))⟩
  f70 := ⟨ "slices.insertionSortOrdered[int64]", by decide, Try.func94.trans (congrArg some (by kernel_rfl))⟩
  f71 := ⟨ "slices.heapSortOrdered[int64]", by decide, Try.func95.trans (congrArg some (by kernel_rfl))⟩
  f72 := ⟨ "slices.breakPatternsOrdered[int64]", by decide, Try.func96.trans (congrArg some (by kernel_rfl))⟩
  f73 := ⟨ "slices.choosePivotOrdered[int64]", by decide, Try.func97.trans (congrArg some (by kernel_rfl))⟩
  f74 := ⟨ "slices.reverseRangeOrdered[int64]", by decide, Try.func98.trans (congrArg some (by kernel_rfl))⟩
  f75 := ⟨ "slices.partialInsertionSortOrdered[int64]", by decide, Try.func99.trans (congrArg some (by kernel_rfl))⟩
  f76 := ⟨ "slices.partitionEqualOrdered[int64]", by decide, Try.func101.trans (congrArg some (by kernel_rfl))⟩
  f77 := ⟨ "slices.partitionOrdered[int64]", by decide, Try.func102.trans (congrArg some (by kernel_rfl))⟩
  f78 := Try.func103.trans (congrArg some (by kernel_rfl))
  f79 := Try.func104.trans (congrArg some (by kernel_rfl))
  f88 := ⟨ "slices.siftDownOrdered[int64]", by decide, Try.func113.trans (congrArg some (by kernel_rfl))⟩
  f89 := Try.func114.trans (congrArg some (by kernel_rfl))
  f90 := Try.func115.trans (congrArg some (by kernel_rfl))
  f91 := ⟨ "slices.medianAdjacentOrdered[int64]", by decide, Try.func116.trans (congrArg some (by kernel_rfl))⟩
  f92 := ⟨ "slices.medianOrdered[int64]", by decide, Try.func117.trans (congrArg some (by kernel_rfl))⟩
  f96 := ⟨ "slices.order2Ordered[int64]", by decide, Try.func123.trans (congrArg some (by kernel_rfl))⟩
  t0 := Try.underlying0
  a0 := Try.isAgg0
  z0 := Try.sizeOf0
  v0 := Try.zeroValue0
  t3 := Try.underlying3
  a3 := Try.isAgg3
  z3 := Try.sizeOf3
  v3 := Try.zeroValue3
  t4 := Try.underlying4
  a4 := Try.isAgg4
  z4 := Try.sizeOf4
  v4 := Try.zeroValue4
  t5 := Try.underlying5
  a5 := Try.isAgg5
  z5 := Try.sizeOf5
  v5 := Try.zeroValue5
  t9 := Try.underlying9
  a9 := Try.isAgg9
  z9 := Try.sizeOf9
  v9 := Try.zeroValue9
  t22 := Try.underlying51
  a22 := Try.isAgg51
  z22 := Try.sizeOf51
  v22 := Try.zeroValue51
  t23 := Try.underlying2
  a23 := Try.isAgg2
  z23 := Try.sizeOf2
  v23 := Try.zeroValue2
  t44 := Try.underlying120
  a44 := Try.isAgg120
  z44 := Try.sizeOf120
  v44 := Try.zeroValue120
  t51 := Try.underlying106
  a51 := Try.isAgg106
  z51 := Try.sizeOf106
  v51 := Try.zeroValue106
  t60 := Try.underlying114
  a60 := Try.isAgg114
  z60 := Try.sizeOf114
  v60 := Try.zeroValue114
  t61 := Try.underlying115
  a61 := Try.isAgg115
  z61 := Try.sizeOf115
  v61 := Try.zeroValue115
  t67 := Try.underlying123
  a67 := Try.isAgg123
  z67 := Try.sizeOf123
  v67 := Try.zeroValue123
  t69 := Try.underlying52
  a69 := Try.isAgg52
  z69 := Try.sizeOf52
  v69 := Try.zeroValue52
  t75 := Try.underlying128
  a75 := Try.isAgg128
  z75 := Try.sizeOf128
  v75 := Try.zeroValue128
  t79 := Try.underlying132
  a79 := Try.isAgg132
  z79 := Try.sizeOf132
  v79 := Try.zeroValue132
  t83 := Try.underlying139
  a83 := Try.isAgg139
  z83 := Try.sizeOf139
  v83 := Try.zeroValue139
  t84 := Try.underlying140
  a84 := Try.isAgg140
  z84 := Try.sizeOf140
  v84 := Try.zeroValue140

/-- What was there is as it was; of new blocks nothing is said. -/
def Lo (w w' : World) : Prop := Below w.heap.size w w'
theorem Lo.of_up {w w' : World} (h : Up w w') : Lo w w' := h.below
theorem Lo.up {a b c : World} (h : Lo a b) (k : Up b c) : Lo a c := Below.trans h (k.below.mono (Below.size h))
theorem Lo.keep {w w' : World} (h : Lo w w') : ∀ b o v, w.cell? ⟨b, o, none⟩ = some v → w'.cell? ⟨b, o, none⟩ = some v := fun b o _ hv =>
  (Below.cell h (p := ⟨b, o, none⟩) (World.block_lt_of_cell? w ⟨b, o, none⟩ hv)).trans hv
theorem Sl.lo {w w' : World} {A : Option Addr} {n : Nat} {L : List It} (h : Sl w A n L) (hu : Lo w w') : Sl w' A n L :=
  ⟨h.1, fun hn => by
    obtain ⟨b, o, e, hc⟩ := h.2 hn
    exact ⟨b, o, e, fun j u hj => hu.keep _ _ _ (hc j u hj)⟩⟩

theorem sort_lo (n : Nat) (M : List Int) (hl : M.length = n) (hn : n ≤ 1000000) (g : Nat) (w0 w : World) (hu : Up w0 w) (hg : w0.heap.size ≤ g) (hB : Bn w g M) :
    Calls Try.prog 63 #[.slice (some ⟨g, 0, none⟩) n n] w fun e w' => e = .returned (.tuple #[]) ∧ Bn w' g (M.mergeSort (fun x y => decide (x ≤ y))) ∧ Lo w0 w' := by
  subst hl
  have hH : Go.Sort.Holds (Value.int .i64) w g 0 M.toArray := Go.holds_of_blockI (e := 2) hB (by simp [nl]; exact List.take_of_length_le (by simp))
  have hc := AnyG.slices_Sort_int srtLays g 0 M.length M w hH (Blk.lt hB) (by omega)
  refine hc.mono ?_
  rintro e w' ⟨rfl, m, os, rfl⟩
  have hlen : (M.mergeSort (fun x y => decide (x ≤ y))).length = M.length := List.length_mergeSort _
  refine ⟨rfl, ?_, ?_⟩
  · unfold Bn Blk
    rw [Go.heap_sortedI _ hB]
    congr 2
    apply Array.ext'
    have h1 := Go.take_putCellsI (nl M).toArray (M.mergeSort (fun x y => decide (x ≤ y))) (by rw [hlen]; simp [nl])
    rw [List.take_of_length_le (by rw [hlen]; simp [Go.Sort.putCells, nl])] at h1
    rw [h1]; rfl
  · exact hu.below.grown (Go.grownBy_sortedI _) hu.below.size (fun k hk => by cases hk; exact hg)

set_option maxHeartbeats 8000000 in
set_option maxRecDepth 1000000 in
theorem quantile_lo (n k : Nat) (A : Option Addr) (L : List It) (p q : Int) (hq' : q ≤ 9223372036854775807) (hn : n ≤ 1000000) (w : World) (hS : Sl w A n L) :
    Calls Try.prog 28 #[.slice A n k, .int .i64 p, .int .i64 q] w fun e w' => e = got ((qnO L p q).getD 0) (qnO L p q).isSome ∧ Lo w w' := by
  unfold qnO
  by_cases h0 : n = 0
  · have hL : L = [] := List.length_eq_zero_iff.1 (by rw [hS.1]; exact h0)
    rw [if_pos (Or.inl hL)]
    subst h0
    clear hS hL
    go_enter Try.func28, Try.ntmps28
    go_wp2_with fail
    go_ret2
    exact ⟨rfl, Lo.of_up (Up.refl _)⟩
  have t0 : ((n : Int) == 0) = false := by simp; omega
  have hne : L ≠ [] := fun h => h0 (by rw [← hS.1, h]; rfl)
  by_cases ha : 1 ≤ q ∧ 0 ≤ p ∧ p ≤ q
  case neg =>
    rw [if_pos (Or.inr (show askB p q = false from decide_eq_false ha))]
    clear hS hne
    by_cases h1 : q < 1
    · clear ha
      go_enter Try.func28, Try.ntmps28
      go_wp2_with fail
      go_ret2
      exact ⟨rfl, Lo.of_up (Up.refl _)⟩
    by_cases h2 : p < 0
    · clear ha
      go_enter Try.func28, Try.ntmps28
      go_wp2_with fail
      go_ret2
      exact ⟨rfl, Lo.of_up (Up.refl _)⟩
    have h3 : q < p := by omega
    clear ha
    go_enter Try.func28, Try.ntmps28
    go_wp2_with fail
    go_ret2
    exact ⟨rfl, Lo.of_up (Up.refl _)⟩
  case pos =>
  obtain ⟨a1, a2, a3⟩ := ha
  rw [if_neg (fun h => h.elim hne (fun h => by rw [show askB p q = true from decide_eq_true ⟨a1, a2, a3⟩] at h; cases h))]
  obtain ⟨g1, g2⟩ := tgZ_in a2 a3 a1 (show (1 : Int) ≤ n by omega)
  have KR := Lib.hid (fun W => rankOf_up p q n a2 a3 a1 hq' (by omega) hn W)
  rw [show ((L.length : Nat) : Int) = (n : Int) by rw [hS.1]]
  have hmk := makeN_run n (by omega) w
  have HL := Lib.hid hS.1
  have HS := Lib.hid hS
  generalize tgZ p q (n : Int) = r at *
  obtain ⟨x, hx⟩ : ∃ x, x = (srt L).getD (r.toNat - 1) 0 := ⟨_, rfl⟩
  rw [← hx]
  have HX := Lib.hid hx
  have HB0 := Lib.hid (Bn.new w (List.replicate n 0) w.heap.size rfl)
  clear hS hne hx
  go_enter Try.func28, Try.ntmps28
  go_wp2_with fail
  go_loopw [32] (fun t wr => ∃ (i : Nat) (M : List Int), t = .int .i64 i ∧ i ≤ n ∧ Hid (M.length = n) ∧ Hid (∀ j, j < i → M.getD j 0 = (L.getD j (0, 0)).2) ∧ Bn wr w.heap.size M ∧ Up w wr) (fun t _ => n - (intOf t).toNat)
  case atStart => exact ⟨0, List.replicate n 0, rfl, Nat.zero_le _, Lib.hid (by simp), Lib.hid (fun j hj => absurd hj (Nat.not_lt_zero _)), HB0.out, (Up.refl w).alloc _ _⟩
  case round =>
    obtain ⟨i, M, rfl, hin, HM, HV, hB, hU⟩ := hrel
    have HU := Lib.hid hU
    have HB := Lib.hid hB
    by_cases hi : i < n
    · obtain ⟨b, o, rfl, d0, d1⟩ := (HS.out.up HU.out).at_ hi
      have c0 := hB.at_ (show i < M.length by rw [HM.out]; exact hi)
      have z0 := Blk.frozen hB i
      have HV1 : Hid (∀ j, j < i + 1 → (M.set i (L.getD i (0, 0)).2).getD j 0 = (L.getD j (0, 0)).2) := Lib.hid (fun j hj => by
        rcases Nat.lt_or_ge j i with h | h
        · have := HV.out j h
          rw [← this]; simp [List.getD, show ¬ i = j by omega]
        · obtain rfl : j = i := by omega
          simp [List.getD, show j < M.length by rw [HM.out]; exact hi])
      have HM1 : Hid ((M.set i (L.getD i (0, 0)).2).length = n) := Lib.hid (by rw [List.length_set]; exact HM.out)
      generalize M.getD i 0 = old at *
      generalize hp1 : (L.getD i (0, 0)).2 = p1 at *
      generalize (L.getD i (0, 0)).1 = p0 at *
      have f2 : (i : Int) < n := by omega
      have f3 : (0 : Int) ≤ i := by omega
      have lb : w.heap.size < wr.heap.size := Blk.lt hB
      clear hB hU hmk HV HM hp1
      go_wp2_with fail
      go_roundw
      case rel => exact ⟨i + 1, _, by go_num, by omega, HM1, HV1, Blk.alloc (HB.out.set_ i p1) _, (HU.out.setCell (Nat.le_refl _) _).alloc _ _⟩
      case measure => simp [intOf]; omega
    · obtain rfl : i = n := by omega
      have hM : M = L.map (·.2) := by
        apply List.ext_getElem (by rw [HM.out, List.length_map, HL.out])
        intro j h1 h2
        have := HV.out j (by rw [← HM.out]; exact h1)
        simp only [List.length_map] at h2
        simpa [List.getD, h1, h2] using this
      have KS := Lib.hid (sort_lo i M HM.out hn w.heap.size w wr hU (Nat.le_refl _) hB)
      rw [hM] at KS
      have hs : (L.map (·.2)).mergeSort (fun x y => decide (x ≤ y)) = srt L := rfl
      rw [hs] at KS
      clear hB hU hmk HV HM hM hs HB
      go_wp2_with fail
      refine KS.out.mono ?_
      rintro e w2 ⟨rfl, hB2, hLo⟩
      have HB2 := Lib.hid hB2
      have HLo := Lib.hid hLo
      clear hB2 hLo KS
      go_wp2_with fail
      refine (KR.out _).mono ?_
      rintro e w3 ⟨rfl, hu3⟩
      have hB3 := HB2.out.up hu3
      have hc := hB3.at_ (show r.toNat - 1 < (srt L).length by rw [srt_len, HL.out]; omega)
      rw [← HX.out] at hc
      have k1 : IntKind.u64.wrap (r - 1) = r - 1 := by rw [IntKind.wrap_u64]; omega
      have k2 : (r - 1).toNat = r.toNat - 1 := by omega
      have k3 : 0 ≤ r - 1 := by omega
      have k4 : r - 1 < (i : Int) := by omega
      have HL3 := Lib.hid (HLo.out.up hu3)
      clear hB3 hu3 HB2
      go_wp2_with fail
      go_ret2
      exact ⟨rfl, HL3.out⟩

end Go.Proofs.Ytflahclphdlolaa
