/- What PopFront of package ring returns. -/
import Derived.Test.YtjedcpfipebncaaGAt
import Derived.Test.YtjedcpfipebncaaGTake
import Derived.Test.YtjedcpfipebncaaGMath2
namespace Go.Proofs.Ytjedcpfipebncaa
open Go.RowKit

set_option maxHeartbeats 4000000 in
set_option maxRecDepth 100000 in
theorem popFront_bad (c h l : Int) (n k : Nat) (A : Option Addr) (L : List It) (hv : vB c h l L = false) (w : World) (hS : Sl w A n L) :
    Calls Try.prog 23 #[.agg #[.int .i64 c, .int .i64 h, .int .i64 l, .slice A n k]] w fun e w' => e = .returned (.tuple #[.agg #[.int .i64 0, .int .i64 0, .int .i64 0, .slice none 0 0], .agg #[.int .i64 0, .int .i64 0], .int .i64 2]) ∧ Up w w' := by
  have K1 := Lib.hid (canPop_bad c h l n k A L hv (((w.alloc (.cells #[.int .i64 c, .int .i64 h, .int .i64 l, .slice A n k] 24)).alloc (.cells #[.int .i64 0, .int .i64 0, .int .i64 0, .slice none 0 0] 24)).alloc (.cells #[.int .i64 0, .int .i64 0] 35)) (hS.up ((((Up.refl w).alloc _ _).alloc _ _).alloc _ _)))
  clear hS hv
  go_enter Try.func23, Try.ntmps23
  go_wp2_with (go_at_call 35; refine K1.out.mono ?_; rintro e w1 ⟨rfl, hu⟩; have HU := Lib.hid (((((Up.refl w).alloc _ _).alloc _ _).alloc _ _).trans hu); have c00 := hu.keep (w.heap.size) 0 (.int .i64 c) (by simp [go_sem]); have c01 := hu.keep (w.heap.size) 1 (.int .i64 h) (by simp [go_sem]); have c02 := hu.keep (w.heap.size) 2 (.int .i64 l) (by simp [go_sem]); have c03 := hu.keep (w.heap.size) 3 (.slice A n k) (by simp [go_sem]); have c10 := hu.keep (w.heap.size + 1) 0 (.int .i64 0) (by simp [go_sem]); have c11 := hu.keep (w.heap.size + 1) 1 (.int .i64 0) (by simp [go_sem]); have c12 := hu.keep (w.heap.size + 1) 2 (.int .i64 0) (by simp [go_sem]); have c13 := hu.keep (w.heap.size + 1) 3 (.slice none 0 0) (by simp [go_sem]); have c20 := hu.keep (w.heap.size + 1 + 1) 0 (.int .i64 0) (by simp [go_sem]); have c21 := hu.keep (w.heap.size + 1 + 1) 1 (.int .i64 0) (by simp [go_sem]); have z10 := HU.out.ownGe (g := w.heap.size + 1) (by omega) 0; have z11 := HU.out.ownGe (g := w.heap.size + 1) (by omega) 1; have z12 := HU.out.ownGe (g := w.heap.size + 1) (by omega) 2; have z13 := HU.out.ownGe (g := w.heap.size + 1) (by omega) 3; have z20 := HU.out.ownGe (g := w.heap.size + 1 + 1) (by omega) 0; have z21 := HU.out.ownGe (g := w.heap.size + 1 + 1) (by omega) 1; clear hu)
  refine bodyPost_ret (v := .tuple #[.agg #[.int .i64 0, .int .i64 0, .int .i64 0, .slice none 0 0], .agg #[.int .i64 0, .int .i64 0], .int .i64 2]) (by simp [results, Try.results23, go_sem, c10, c11, c12, c13, c20, c21]) rfl ⟨rfl, ?_⟩
  exact (((HU.out.set4 (by omega)).setCell (by show w.heap.size ≤ w.heap.size + 1 + 1; omega) _).setCell (by show w.heap.size ≤ w.heap.size + 1 + 1; omega) _)

set_option maxHeartbeats 4000000 in
set_option maxRecDepth 100000 in
theorem popFront_empty (c h k : Nat) (A : Option Addr) (M : List It) (hc : 1 ≤ c) (hc' : c ≤ 65536) (hh : h < c) (hM : M.length ≤ c) (ht : M.length = 0) (w : World) (hS : Sl w A c (ofL c h M)) :
    Calls Try.prog 23 #[.agg #[.int .i64 c, .int .i64 h, .int .i64 M.length, .slice A c k]] w fun e w' => e = .returned (.tuple #[.agg #[.int .i64 0, .int .i64 0, .int .i64 0, .slice none 0 0], .agg #[.int .i64 0, .int .i64 0], .int .i64 7]) ∧ Up w w' := by
  have K1 := Lib.hid (canPop_empty c h k A M hc hc' hh hM ht (((w.alloc (.cells #[.int .i64 c, .int .i64 h, .int .i64 M.length, .slice A c k] 24)).alloc (.cells #[.int .i64 0, .int .i64 0, .int .i64 0, .slice none 0 0] 24)).alloc (.cells #[.int .i64 0, .int .i64 0] 35)) (hS.up ((((Up.refl w).alloc _ _).alloc _ _).alloc _ _)))
  clear hS ht
  generalize M.length = l at *
  go_enter Try.func23, Try.ntmps23
  go_wp2_with (go_at_call 35; refine K1.out.mono ?_; rintro e w1 ⟨rfl, hu⟩; have HU := Lib.hid (((((Up.refl w).alloc _ _).alloc _ _).alloc _ _).trans hu); have c00 := hu.keep (w.heap.size) 0 (.int .i64 c) (by simp [go_sem]); have c01 := hu.keep (w.heap.size) 1 (.int .i64 h) (by simp [go_sem]); have c02 := hu.keep (w.heap.size) 2 (.int .i64 l) (by simp [go_sem]); have c03 := hu.keep (w.heap.size) 3 (.slice A c k) (by simp [go_sem]); have c10 := hu.keep (w.heap.size + 1) 0 (.int .i64 0) (by simp [go_sem]); have c11 := hu.keep (w.heap.size + 1) 1 (.int .i64 0) (by simp [go_sem]); have c12 := hu.keep (w.heap.size + 1) 2 (.int .i64 0) (by simp [go_sem]); have c13 := hu.keep (w.heap.size + 1) 3 (.slice none 0 0) (by simp [go_sem]); have c20 := hu.keep (w.heap.size + 1 + 1) 0 (.int .i64 0) (by simp [go_sem]); have c21 := hu.keep (w.heap.size + 1 + 1) 1 (.int .i64 0) (by simp [go_sem]); have z10 := HU.out.ownGe (g := w.heap.size + 1) (by omega) 0; have z11 := HU.out.ownGe (g := w.heap.size + 1) (by omega) 1; have z12 := HU.out.ownGe (g := w.heap.size + 1) (by omega) 2; have z13 := HU.out.ownGe (g := w.heap.size + 1) (by omega) 3; have z20 := HU.out.ownGe (g := w.heap.size + 1 + 1) (by omega) 0; have z21 := HU.out.ownGe (g := w.heap.size + 1 + 1) (by omega) 1; clear hu)
  refine bodyPost_ret (v := .tuple #[.agg #[.int .i64 0, .int .i64 0, .int .i64 0, .slice none 0 0], .agg #[.int .i64 0, .int .i64 0], .int .i64 7]) (by simp [results, Try.results23, go_sem, c10, c11, c12, c13, c20, c21]) rfl ⟨rfl, ?_⟩
  exact (((HU.out.set4 (by omega)).setCell (by show w.heap.size ≤ w.heap.size + 1 + 1; omega) _).setCell (by show w.heap.size ≤ w.heap.size + 1 + 1; omega) _)

set_option maxHeartbeats 4000000 in
set_option maxRecDepth 100000 in
theorem popBack_bad (c h l : Int) (n k : Nat) (A : Option Addr) (L : List It) (hv : vB c h l L = false) (w : World) (hS : Sl w A n L) :
    Calls Try.prog 24 #[.agg #[.int .i64 c, .int .i64 h, .int .i64 l, .slice A n k]] w fun e w' => e = .returned (.tuple #[.agg #[.int .i64 0, .int .i64 0, .int .i64 0, .slice none 0 0], .agg #[.int .i64 0, .int .i64 0], .int .i64 2]) ∧ Up w w' := by
  have K1 := Lib.hid (canPop_bad c h l n k A L hv (((w.alloc (.cells #[.int .i64 c, .int .i64 h, .int .i64 l, .slice A n k] 24)).alloc (.cells #[.int .i64 0, .int .i64 0, .int .i64 0, .slice none 0 0] 24)).alloc (.cells #[.int .i64 0, .int .i64 0] 35)) (hS.up ((((Up.refl w).alloc _ _).alloc _ _).alloc _ _)))
  clear hS hv
  go_enter Try.func24, Try.ntmps24
  go_wp2_with (go_at_call 35; refine K1.out.mono ?_; rintro e w1 ⟨rfl, hu⟩; have HU := Lib.hid (((((Up.refl w).alloc _ _).alloc _ _).alloc _ _).trans hu); have c00 := hu.keep (w.heap.size) 0 (.int .i64 c) (by simp [go_sem]); have c01 := hu.keep (w.heap.size) 1 (.int .i64 h) (by simp [go_sem]); have c02 := hu.keep (w.heap.size) 2 (.int .i64 l) (by simp [go_sem]); have c03 := hu.keep (w.heap.size) 3 (.slice A n k) (by simp [go_sem]); have c10 := hu.keep (w.heap.size + 1) 0 (.int .i64 0) (by simp [go_sem]); have c11 := hu.keep (w.heap.size + 1) 1 (.int .i64 0) (by simp [go_sem]); have c12 := hu.keep (w.heap.size + 1) 2 (.int .i64 0) (by simp [go_sem]); have c13 := hu.keep (w.heap.size + 1) 3 (.slice none 0 0) (by simp [go_sem]); have c20 := hu.keep (w.heap.size + 1 + 1) 0 (.int .i64 0) (by simp [go_sem]); have c21 := hu.keep (w.heap.size + 1 + 1) 1 (.int .i64 0) (by simp [go_sem]); have z10 := HU.out.ownGe (g := w.heap.size + 1) (by omega) 0; have z11 := HU.out.ownGe (g := w.heap.size + 1) (by omega) 1; have z12 := HU.out.ownGe (g := w.heap.size + 1) (by omega) 2; have z13 := HU.out.ownGe (g := w.heap.size + 1) (by omega) 3; have z20 := HU.out.ownGe (g := w.heap.size + 1 + 1) (by omega) 0; have z21 := HU.out.ownGe (g := w.heap.size + 1 + 1) (by omega) 1; clear hu)
  refine bodyPost_ret (v := .tuple #[.agg #[.int .i64 0, .int .i64 0, .int .i64 0, .slice none 0 0], .agg #[.int .i64 0, .int .i64 0], .int .i64 2]) (by simp [results, Try.results24, go_sem, c10, c11, c12, c13, c20, c21]) rfl ⟨rfl, ?_⟩
  exact (((HU.out.set4 (by omega)).setCell (by show w.heap.size ≤ w.heap.size + 1 + 1; omega) _).setCell (by show w.heap.size ≤ w.heap.size + 1 + 1; omega) _)

set_option maxHeartbeats 4000000 in
set_option maxRecDepth 100000 in
theorem popBack_empty (c h k : Nat) (A : Option Addr) (M : List It) (hc : 1 ≤ c) (hc' : c ≤ 65536) (hh : h < c) (hM : M.length ≤ c) (ht : M.length = 0) (w : World) (hS : Sl w A c (ofL c h M)) :
    Calls Try.prog 24 #[.agg #[.int .i64 c, .int .i64 h, .int .i64 M.length, .slice A c k]] w fun e w' => e = .returned (.tuple #[.agg #[.int .i64 0, .int .i64 0, .int .i64 0, .slice none 0 0], .agg #[.int .i64 0, .int .i64 0], .int .i64 7]) ∧ Up w w' := by
  have K1 := Lib.hid (canPop_empty c h k A M hc hc' hh hM ht (((w.alloc (.cells #[.int .i64 c, .int .i64 h, .int .i64 M.length, .slice A c k] 24)).alloc (.cells #[.int .i64 0, .int .i64 0, .int .i64 0, .slice none 0 0] 24)).alloc (.cells #[.int .i64 0, .int .i64 0] 35)) (hS.up ((((Up.refl w).alloc _ _).alloc _ _).alloc _ _)))
  clear hS ht
  generalize M.length = l at *
  go_enter Try.func24, Try.ntmps24
  go_wp2_with (go_at_call 35; refine K1.out.mono ?_; rintro e w1 ⟨rfl, hu⟩; have HU := Lib.hid (((((Up.refl w).alloc _ _).alloc _ _).alloc _ _).trans hu); have c00 := hu.keep (w.heap.size) 0 (.int .i64 c) (by simp [go_sem]); have c01 := hu.keep (w.heap.size) 1 (.int .i64 h) (by simp [go_sem]); have c02 := hu.keep (w.heap.size) 2 (.int .i64 l) (by simp [go_sem]); have c03 := hu.keep (w.heap.size) 3 (.slice A c k) (by simp [go_sem]); have c10 := hu.keep (w.heap.size + 1) 0 (.int .i64 0) (by simp [go_sem]); have c11 := hu.keep (w.heap.size + 1) 1 (.int .i64 0) (by simp [go_sem]); have c12 := hu.keep (w.heap.size + 1) 2 (.int .i64 0) (by simp [go_sem]); have c13 := hu.keep (w.heap.size + 1) 3 (.slice none 0 0) (by simp [go_sem]); have c20 := hu.keep (w.heap.size + 1 + 1) 0 (.int .i64 0) (by simp [go_sem]); have c21 := hu.keep (w.heap.size + 1 + 1) 1 (.int .i64 0) (by simp [go_sem]); have z10 := HU.out.ownGe (g := w.heap.size + 1) (by omega) 0; have z11 := HU.out.ownGe (g := w.heap.size + 1) (by omega) 1; have z12 := HU.out.ownGe (g := w.heap.size + 1) (by omega) 2; have z13 := HU.out.ownGe (g := w.heap.size + 1) (by omega) 3; have z20 := HU.out.ownGe (g := w.heap.size + 1 + 1) (by omega) 0; have z21 := HU.out.ownGe (g := w.heap.size + 1 + 1) (by omega) 1; clear hu)
  refine bodyPost_ret (v := .tuple #[.agg #[.int .i64 0, .int .i64 0, .int .i64 0, .slice none 0 0], .agg #[.int .i64 0, .int .i64 0], .int .i64 7]) (by simp [results, Try.results24, go_sem, c10, c11, c12, c13, c20, c21]) rfl ⟨rfl, ?_⟩
  exact (((HU.out.set4 (by omega)).setCell (by show w.heap.size ≤ w.heap.size + 1 + 1; omega) _).setCell (by show w.heap.size ≤ w.heap.size + 1 + 1; omega) _)

set_option maxHeartbeats 4000000 in
set_option maxRecDepth 100000 in
theorem popFront_good (c h k : Nat) (A : Option Addr) (M : List It) (hc : 1 ≤ c) (hc' : c ≤ 65536) (hh : h < c) (hM : M.length ≤ c) (ht : 0 < M.length) (w : World) (hS : Sl w A c (ofL c h M)) :
    Calls Try.prog 23 #[.agg #[.int .i64 c, .int .i64 h, .int .i64 M.length, .slice A c k]] w fun e w' => ∃ g, e = .returned (.tuple #[.agg #[.int .i64 c, .int .i64 (((h + 1) % c : Nat) : Int), .int .i64 ((M.length - 1 : Nat) : Int), .slice (some ⟨g, 0, none⟩) c c], .agg #[.int .i64 (M.getD 0 (0, 0)).1, .int .i64 (M.getD 0 (0, 0)).2], .int .i64 0]) ∧ w.heap.size ≤ g ∧ Bi w' g (ofL c ((h + 1) % c) M.tail) ∧ Up w w' := by
  have K1 := Lib.hid (canPop_some c h k A M hc hc' hh hM ht (((w.alloc (.cells #[.int .i64 c, .int .i64 h, .int .i64 M.length, .slice A c k] 24)).alloc (.cells #[.int .i64 0, .int .i64 0, .int .i64 0, .slice none 0 0] 24)).alloc (.cells #[.int .i64 0, .int .i64 0] 35)) (hS.up ((((Up.refl w).alloc _ _).alloc _ _).alloc _ _)))
  have HS := Lib.hid hS
  clear hS
  obtain ⟨l, hl⟩ : ∃ l, l = M.length := ⟨_, rfl⟩
  have HL := Lib.hid hl
  rw [← hl] at hM ht K1 ⊢
  clear hl
  go_enter Try.func23, Try.ntmps23
  go_wp2_with (first
    | (go_at_call 35; refine K1.out.mono ?_; rintro e w1 ⟨rfl, hu⟩; have HU1 := Lib.hid (((((Up.refl w).alloc _ _).alloc _ _).alloc _ _).trans hu); have c00 := hu.keep (w.heap.size) 0 (.int .i64 c) (by simp [go_sem]); have c01 := hu.keep (w.heap.size) 1 (.int .i64 h) (by simp [go_sem]); have c02 := hu.keep (w.heap.size) 2 (.int .i64 l) (by simp [go_sem]); have c03 := hu.keep (w.heap.size) 3 (.slice A c k) (by simp [go_sem]); have c10 := hu.keep (w.heap.size + 1) 0 (.int .i64 0) (by simp [go_sem]); have c11 := hu.keep (w.heap.size + 1) 1 (.int .i64 0) (by simp [go_sem]); have c12 := hu.keep (w.heap.size + 1) 2 (.int .i64 0) (by simp [go_sem]); have c13 := hu.keep (w.heap.size + 1) 3 (.slice none 0 0) (by simp [go_sem]); have c20 := hu.keep (w.heap.size + 1 + 1) 0 (.int .i64 0) (by simp [go_sem]); have c21 := hu.keep (w.heap.size + 1 + 1) 1 (.int .i64 0) (by simp [go_sem]); have hls := hu.size; (try simp at hls); clear hu)
    | (go_at_call 33; refine (own_any c k h l A (ofL c h M) hc' _ (HS.out.up HU1.out)).mono ?_; rintro e w2 ⟨g, rfl, hg, hb, hu⟩; have HU2 := Lib.hid (HU1.out.trans hu); have HB2 := Lib.hid hb; have d00 := hu.keep _ _ _ c00; have d01 := hu.keep _ _ _ c01; have d02 := hu.keep _ _ _ c02; have d03 := hu.keep _ _ _ c03; have d10 := hu.keep _ _ _ c10; have d11 := hu.keep _ _ _ c11; have d12 := hu.keep _ _ _ c12; have d13 := hu.keep _ _ _ c13; have d20 := hu.keep _ _ _ c20; have d21 := hu.keep _ _ _ c21; have f00 := HU2.out.ownGe (g := w.heap.size) (by omega) 0; have f01 := HU2.out.ownGe (g := w.heap.size) (by omega) 1; have f02 := HU2.out.ownGe (g := w.heap.size) (by omega) 2; have f03 := HU2.out.ownGe (g := w.heap.size) (by omega) 3; have f10 := HU2.out.ownGe (g := w.heap.size + 1) (by omega) 0; have f11 := HU2.out.ownGe (g := w.heap.size + 1) (by omega) 1; have f12 := HU2.out.ownGe (g := w.heap.size + 1) (by omega) 2; have f13 := HU2.out.ownGe (g := w.heap.size + 1) (by omega) 3; have f20 := HU2.out.ownGe (g := w.heap.size + 1 + 1) (by omega) 0; have f21 := HU2.out.ownGe (g := w.heap.size + 1 + 1) (by omega) 1; clear hu hb))
  have HR3 := Lib.hid (Rt.of_store (c := c) (h := h) (l := l) d00 d01 d02 d03 HB2.out (fun o => HU2.out.ownGe (Nat.le_refl _) o) (show w.heap.size ≠ g by omega) (ofL_length c h M))
  have HU3 := Lib.hid (HU2.out.set4 (p := w.heap.size) (v0 := .int .i64 c) (v1 := .int .i64 h) (v2 := .int .i64 l) (v3 := .slice (some ⟨g, 0, none⟩) c c) (Nat.le_refl _))
  have E10 := Lib.hid (far4 (p := w.heap.size) (v0 := .int .i64 c) (v1 := .int .i64 h) (v2 := .int .i64 l) (v3 := .slice (some ⟨g, 0, none⟩) c c) d10 (by omega))
  have E11 := Lib.hid (far4 (p := w.heap.size) (v0 := .int .i64 c) (v1 := .int .i64 h) (v2 := .int .i64 l) (v3 := .slice (some ⟨g, 0, none⟩) c c) d11 (by omega))
  have E12 := Lib.hid (far4 (p := w.heap.size) (v0 := .int .i64 c) (v1 := .int .i64 h) (v2 := .int .i64 l) (v3 := .slice (some ⟨g, 0, none⟩) c c) d12 (by omega))
  have E13 := Lib.hid (far4 (p := w.heap.size) (v0 := .int .i64 c) (v1 := .int .i64 h) (v2 := .int .i64 l) (v3 := .slice (some ⟨g, 0, none⟩) c c) d13 (by omega))
  have E20 := Lib.hid (far4 (p := w.heap.size) (v0 := .int .i64 c) (v1 := .int .i64 h) (v2 := .int .i64 l) (v3 := .slice (some ⟨g, 0, none⟩) c c) d20 (by omega))
  have E21 := Lib.hid (far4 (p := w.heap.size) (v0 := .int .i64 c) (v1 := .int .i64 h) (v2 := .int .i64 l) (v3 := .slice (some ⟨g, 0, none⟩) c c) d21 (by omega))
  have hs2 : w.heap.size + 1 + 1 < w2.heap.size := World.block_lt_of_cell? _ _ d20
  have hg2 : g < w2.heap.size := Blk.lt HB2.out
  obtain ⟨w3, hw3⟩ : ∃ w3, w3 = (((w2.setCell ⟨w.heap.size, 0, none⟩ (.int .i64 c)).setCell ⟨w.heap.size, 1, none⟩ (.int .i64 h)).setCell ⟨w.heap.size, 2, none⟩ (.int .i64 l)).setCell ⟨w.heap.size, 3, none⟩ (.slice (some ⟨g, 0, none⟩) c c) := ⟨_, rfl⟩
  have hs3 : w3.heap.size = w2.heap.size := by rw [hw3]; simp [World.setCell]
  rw [← hw3] at HR3 HU3 E10 E11 E12 E13 E20 E21
  have D0 := HR3.out.c0
  have D1 := HR3.out.c1
  have D2 := HR3.out.c2
  have D3 := HR3.out.c3
  have e10 := E10.out
  have e11 := E11.out
  have e12 := E12.out
  have e13 := E13.out
  have e20 := E20.out
  have e21 := E21.out
  clear c00 c01 c02 c03 c10 c11 c12 c13 c20 c21 d00 d01 d02 d03 d10 d11 d12 d13 d20 d21 f00 f01 f02 f03 f10 f11 f12 f13 f20 f21 E10 E11 E12 E13 E20 E21
  rw [← hw3]
  clear hw3
  obtain ⟨l', rfl⟩ : ∃ l', l = l' + 1 := ⟨l - 1, by omega⟩
  have T := takeFirst_any w.heap.size g c h l' (ofL c h M) hc hc' hh (by omega) w3 HR3.out
  rw [ofL_head c h M hh, pop_front' c h M hh (by rw [← HL.out]; omega) (by rw [← HL.out]; exact hM)] at T
  generalize hq0 : (M.getD 0 (0, 0)).1 = q0 at *
  generalize hq1 : (M.getD 0 (0, 0)).2 = q1 at *
  generalize hmm : (h + 1) % c = m at *
  have HM := Lib.hid hmm
  have HQ0 := Lib.hid hq0
  have HQ1 := Lib.hid hq1
  clear hmm hq0 hq1
  refine T.mono ?_
  clear T
  rintro e w4 ⟨rfl, hW, hR⟩
  have HW4 := Lib.hid hW
  have HR4 := Lib.hid hR
  have a0 := hR.c0
  have a1 := hR.c1
  have a2 := hR.c2
  have a3 := hR.c3
  have z10 := hW.keep (b := w.heap.size + 1) (o := 0) (by omega) (by omega) e10
  have y10 := (hW.fr ⟨w.heap.size + 1, 0, none⟩).trans (HU3.out.ownGe (g := w.heap.size + 1) (by omega) 0)
  have z11 := hW.keep (b := w.heap.size + 1) (o := 1) (by omega) (by omega) e11
  have y11 := (hW.fr ⟨w.heap.size + 1, 1, none⟩).trans (HU3.out.ownGe (g := w.heap.size + 1) (by omega) 1)
  have z12 := hW.keep (b := w.heap.size + 1) (o := 2) (by omega) (by omega) e12
  have y12 := (hW.fr ⟨w.heap.size + 1, 2, none⟩).trans (HU3.out.ownGe (g := w.heap.size + 1) (by omega) 2)
  have z13 := hW.keep (b := w.heap.size + 1) (o := 3) (by omega) (by omega) e13
  have y13 := (hW.fr ⟨w.heap.size + 1, 3, none⟩).trans (HU3.out.ownGe (g := w.heap.size + 1) (by omega) 3)
  have z20 := hW.keep (b := w.heap.size + 1 + 1) (o := 0) (by omega) (by omega) e20
  have y20 := (hW.fr ⟨w.heap.size + 1 + 1, 0, none⟩).trans (HU3.out.ownGe (g := w.heap.size + 1 + 1) (by omega) 0)
  have z21 := hW.keep (b := w.heap.size + 1 + 1) (o := 1) (by omega) (by omega) e21
  have y21 := (hW.fr ⟨w.heap.size + 1 + 1, 1, none⟩).trans (HU3.out.ownGe (g := w.heap.size + 1 + 1) (by omega) 1)
  clear hW hR D0 D1 D2 D3 e10 e11 e12 e13 e20 e21
  go_wp2_with fail
  obtain ⟨w5, hw5⟩ : ∃ w5, w5 = w4.alloc (.cells #[.int .i64 q0, .int .i64 q1] 35) := ⟨_, rfl⟩
  rw [← hw5]
  have HU5 : Hid (Up w4 w5) := Lib.hid (by rw [hw5]; exact (Up.refl _).alloc _ _)
  have HUw : Hid (Up w w5) := Lib.hid ((HW4.out.up w HU3.out (Nat.le_refl _) (by omega)).trans HU5.out)
  have x0 : w5.cell? ⟨w4.heap.size, 0, none⟩ = some (.int .i64 q0) := by rw [hw5]; skip; simp [go_sem]
  have x1 : w5.cell? ⟨w4.heap.size, 1, none⟩ = some (.int .i64 q1) := by rw [hw5]; skip; simp [go_sem]
  clear hw5
  have hs5 : w.heap.size + 1 + 1 < w4.heap.size := by (skip; exact World.block_lt_of_cell? _ _ z20)
  have A0 := HU5.out.keep _ _ _ a0
  have A1 := HU5.out.keep _ _ _ a1
  have A2 := HU5.out.keep _ _ _ a2
  have A3 := HU5.out.keep _ _ _ a3
  have Z10 := HU5.out.keep _ _ _ z10
  have Y10 := (HU5.out.cells.2 _).trans y10
  have Z11 := HU5.out.keep _ _ _ z11
  have Y11 := (HU5.out.cells.2 _).trans y11
  have Z12 := HU5.out.keep _ _ _ z12
  have Y12 := (HU5.out.cells.2 _).trans y12
  have Z13 := HU5.out.keep _ _ _ z13
  have Y13 := (HU5.out.cells.2 _).trans y13
  have Z20 := HU5.out.keep _ _ _ z20
  have Y20 := (HU5.out.cells.2 _).trans y20
  have Z21 := HU5.out.keep _ _ _ z21
  have Y21 := (HU5.out.cells.2 _).trans y21
  clear a0 a1 a2 a3 z10 y10 z11 y11 z12 y12 z13 y13 z20 y20 z21 y21
  have SS : Hid (Up w w5 ∧ w5.cell? ⟨w.heap.size, 0, none⟩ = some (.int .i64 c) ∧ w5.cell? ⟨w.heap.size, 1, none⟩ = some (.int .i64 m) ∧ w5.cell? ⟨w.heap.size, 2, none⟩ = some (.int .i64 l') ∧ w5.cell? ⟨w.heap.size, 3, none⟩ = some (.slice (some ⟨g, 0, none⟩) c c) ∧ w5.cell? ⟨w4.heap.size, 0, none⟩ = some (.int .i64 q0) ∧ w5.cell? ⟨w4.heap.size, 1, none⟩ = some (.int .i64 q1)) := Lib.hid ⟨HUw.out, A0, A1, A2, A3, x0, x1⟩
  go_region_held3 (fun w' => Up w w' ∧ w'.cell? ⟨w.heap.size, 0, none⟩ = some (.int .i64 c) ∧ w'.cell? ⟨w.heap.size, 1, none⟩ = some (.int .i64 m) ∧ w'.cell? ⟨w.heap.size, 2, none⟩ = some (.int .i64 l') ∧ w'.cell? ⟨w.heap.size, 3, none⟩ = some (.slice (some ⟨g, 0, none⟩) c c) ∧ w'.cell? ⟨w4.heap.size, 0, none⟩ = some (.int .i64 q0) ∧ w'.cell? ⟨w4.heap.size, 1, none⟩ = some (.int .i64 q1))
    (repeat (first | (with_reducible refine set6 ?_ (by omega) (by omega) (by omega) (by omega) (by omega) (by omega) (by omega)) | (with_reducible exact SS.out) | (with_reducible assumption) | (with_reducible refine keep6 (Lib.hid (Up.refl _).drew) ?_)))
    (fail)
  clear ‹Up w _ ∧ _›
  go_wp2_with fail
  refine bodyPost_ret (v := .tuple #[.agg #[.int .i64 c, .int .i64 m, .int .i64 l', .slice (some ⟨g, 0, none⟩) c c], .agg #[.int .i64 q0, .int .i64 q1], .int .i64 0]) (by simp [results, Try.results23, go_sem, Z10, Z11, Z12, Z13, Z20, Z21]) rfl ⟨g, ?_, by omega, ?_, ?_⟩
  · rw [← HQ0.out, ← HQ1.out]; first | rfl | (rw [HM.out]; rfl)
  · have HB := HR4.out.bi.up HU5.out
    rw [HM.out]
    exact ((HB.far4 (p := w.heap.size + 1) (by omega)).far2 (p := w.heap.size + 1 + 1) (by omega)).drew
  · exact (((HUw.out.set4 (p := w.heap.size + 1) (by omega)).setCell (by show w.heap.size ≤ w.heap.size + 1 + 1; omega) _).setCell (by show w.heap.size ≤ w.heap.size + 1 + 1; omega) _).drew

end Go.Proofs.Ytjedcpfipebncaa
