/- What Rotate of package ring returns. -/
import Derived.Test.YtjedcpfipebncaaGAt
import Derived.Test.YtjedcpfipebncaaGTake
import Derived.Test.YtjedcpfipebncaaGPut
import Derived.Test.YtjedcpfipebncaaGMath2
namespace Go.Proofs.Ytjedcpfipebncaa
open Go.RowKit

theorem takeFirst_l (p g c h l : Nat) (L : List It) (hc : 1 ≤ c) (hc' : c ≤ 65536) (hh : h < c) (hl : 0 < l) (hl' : l ≤ c) (w : World) (hR : Rt w p g c h l L) :
    Calls Try.prog 36 #[.pointer (some ⟨p, 0, none⟩)] w fun e w' => e = .returned (.agg #[.int .i64 (L.getD h (0, 0)).1, .int .i64 (L.getD h (0, 0)).2]) ∧ Wr w w' p g ∧ Rt w' p g c ((h + 1) % c) (l - 1) (L.set h (0, 0)) := by
  obtain ⟨l', rfl⟩ : ∃ l', l = l' + 1 := ⟨l - 1, by omega⟩
  exact takeFirst_any p g c h l' L hc hc' hh (by omega) w hR

set_option maxHeartbeats 4000000 in
set_option maxRecDepth 100000 in
theorem rotate_bad (c h l : Int) (n k : Nat) (A : Option Addr) (L : List It) (m : Int) (hv : vB c h l L = false) (w : World) (hS : Sl w A n L) :
    Calls Try.prog 25 #[.agg #[.int .i64 c, .int .i64 h, .int .i64 l, .slice A n k]  , .int .i64 m] w fun e w' => e = .returned (.tuple #[.agg #[.int .i64 0, .int .i64 0, .int .i64 0, .slice none 0 0], .int .i64 2]) ∧ Up w w' := by
  have K1 := Lib.hid (val_bad c h l n k A L hv ((w.alloc (.cells #[.int .i64 c, .int .i64 h, .int .i64 l, .slice A n k] 24)).alloc (.cells #[.int .i64 0, .int .i64 0, .int .i64 0, .slice none 0 0] 24)) (hS.up (((Up.refl w).alloc _ _).alloc _ _)))
  clear hS hv
  go_enter Try.func25, Try.ntmps25
  go_wp2_with (go_at_call 13; refine K1.out.mono ?_; rintro e w1 ⟨rfl, hu⟩; have HU := Lib.hid ((((Up.refl w).alloc _ _).alloc _ _).trans hu); have c00 := hu.keep (w.heap.size) 0 (.int .i64 c) (by simp [go_sem]); have c01 := hu.keep (w.heap.size) 1 (.int .i64 h) (by simp [go_sem]); have c02 := hu.keep (w.heap.size) 2 (.int .i64 l) (by simp [go_sem]); have c03 := hu.keep (w.heap.size) 3 (.slice A n k) (by simp [go_sem]); have c10 := hu.keep (w.heap.size + 1) 0 (.int .i64 0) (by simp [go_sem]); have c11 := hu.keep (w.heap.size + 1) 1 (.int .i64 0) (by simp [go_sem]); have c12 := hu.keep (w.heap.size + 1) 2 (.int .i64 0) (by simp [go_sem]); have c13 := hu.keep (w.heap.size + 1) 3 (.slice none 0 0) (by simp [go_sem]); have z10 := HU.out.ownGe (g := w.heap.size + 1) (by omega) 0; have z11 := HU.out.ownGe (g := w.heap.size + 1) (by omega) 1; have z12 := HU.out.ownGe (g := w.heap.size + 1) (by omega) 2; have z13 := HU.out.ownGe (g := w.heap.size + 1) (by omega) 3; clear hu)
  refine bodyPost_ret (v := .tuple #[.agg #[.int .i64 0, .int .i64 0, .int .i64 0, .slice none 0 0], .int .i64 2]) (by simp [results, Try.results25, go_sem, c10, c11, c12, c13]) rfl ⟨rfl, ?_⟩
  exact (HU.out.set4 (by omega))

set_option maxHeartbeats 4000000 in
set_option maxRecDepth 100000 in
theorem rotate_neg (c h k : Nat) (A : Option Addr) (M : List It) (n : Int) (hc : 1 ≤ c) (hc' : c ≤ 65536) (hh : h < c) (hM : M.length ≤ c) (ht : n < 0) (w : World) (hS : Sl w A c (ofL c h M)) :
    Calls Try.prog 25 #[.agg #[.int .i64 c, .int .i64 h, .int .i64 M.length, .slice A c k], .int .i64 n] w fun e w' => e = .returned (.tuple #[.agg #[.int .i64 0, .int .i64 0, .int .i64 0, .slice none 0 0], .int .i64 1]) ∧ Up w w' := by
  have K1 := Lib.hid (val_good c h k A M hc hc' hh hM ((w.alloc (.cells #[.int .i64 c, .int .i64 h, .int .i64 M.length, .slice A c k] 24)).alloc (.cells #[.int .i64 0, .int .i64 0, .int .i64 0, .slice none 0 0] 24)) (hS.up (((Up.refl w).alloc _ _).alloc _ _)))
  clear hS
  generalize M.length = l at *
  have t1 : decide (n < 0) = true := decide_eq_true ht
  clear ht
  go_enter Try.func25, Try.ntmps25
  go_wp2_with (go_at_call 13; refine K1.out.mono ?_; rintro e w1 ⟨rfl, hu⟩; have HU := Lib.hid ((((Up.refl w).alloc _ _).alloc _ _).trans hu); have c00 := hu.keep (w.heap.size) 0 (.int .i64 c) (by simp [go_sem]); have c01 := hu.keep (w.heap.size) 1 (.int .i64 h) (by simp [go_sem]); have c02 := hu.keep (w.heap.size) 2 (.int .i64 l) (by simp [go_sem]); have c03 := hu.keep (w.heap.size) 3 (.slice A c k) (by simp [go_sem]); have c10 := hu.keep (w.heap.size + 1) 0 (.int .i64 0) (by simp [go_sem]); have c11 := hu.keep (w.heap.size + 1) 1 (.int .i64 0) (by simp [go_sem]); have c12 := hu.keep (w.heap.size + 1) 2 (.int .i64 0) (by simp [go_sem]); have c13 := hu.keep (w.heap.size + 1) 3 (.slice none 0 0) (by simp [go_sem]); have z10 := HU.out.ownGe (g := w.heap.size + 1) (by omega) 0; have z11 := HU.out.ownGe (g := w.heap.size + 1) (by omega) 1; have z12 := HU.out.ownGe (g := w.heap.size + 1) (by omega) 2; have z13 := HU.out.ownGe (g := w.heap.size + 1) (by omega) 3; clear hu)
  refine bodyPost_ret (v := .tuple #[.agg #[.int .i64 0, .int .i64 0, .int .i64 0, .slice none 0 0], .int .i64 1]) (by simp [results, Try.results25, go_sem, c10, c11, c12, c13]) rfl ⟨rfl, ?_⟩
  exact (HU.out.set4 (by omega))

set_option maxHeartbeats 4000000 in
set_option maxRecDepth 100000 in
theorem rotate_big (c h k : Nat) (A : Option Addr) (M : List It) (n : Int) (hc : 1 ≤ c) (hc' : c ≤ 65536) (hh : h < c) (hM : M.length ≤ c) (ht : 65536 < n) (w : World) (hS : Sl w A c (ofL c h M)) :
    Calls Try.prog 25 #[.agg #[.int .i64 c, .int .i64 h, .int .i64 M.length, .slice A c k], .int .i64 n] w fun e w' => e = .returned (.tuple #[.agg #[.int .i64 0, .int .i64 0, .int .i64 0, .slice none 0 0], .int .i64 1]) ∧ Up w w' := by
  have K1 := Lib.hid (val_good c h k A M hc hc' hh hM ((w.alloc (.cells #[.int .i64 c, .int .i64 h, .int .i64 M.length, .slice A c k] 24)).alloc (.cells #[.int .i64 0, .int .i64 0, .int .i64 0, .slice none 0 0] 24)) (hS.up (((Up.refl w).alloc _ _).alloc _ _)))
  clear hS
  generalize M.length = l at *
  have t1 : decide (n < 0) = false := decide_eq_false (by omega)
  have t2 : decide (65536 < n) = true := decide_eq_true ht
  clear ht
  go_enter Try.func25, Try.ntmps25
  go_wp2_with (go_at_call 13; refine K1.out.mono ?_; rintro e w1 ⟨rfl, hu⟩; have HU := Lib.hid ((((Up.refl w).alloc _ _).alloc _ _).trans hu); have c00 := hu.keep (w.heap.size) 0 (.int .i64 c) (by simp [go_sem]); have c01 := hu.keep (w.heap.size) 1 (.int .i64 h) (by simp [go_sem]); have c02 := hu.keep (w.heap.size) 2 (.int .i64 l) (by simp [go_sem]); have c03 := hu.keep (w.heap.size) 3 (.slice A c k) (by simp [go_sem]); have c10 := hu.keep (w.heap.size + 1) 0 (.int .i64 0) (by simp [go_sem]); have c11 := hu.keep (w.heap.size + 1) 1 (.int .i64 0) (by simp [go_sem]); have c12 := hu.keep (w.heap.size + 1) 2 (.int .i64 0) (by simp [go_sem]); have c13 := hu.keep (w.heap.size + 1) 3 (.slice none 0 0) (by simp [go_sem]); have z10 := HU.out.ownGe (g := w.heap.size + 1) (by omega) 0; have z11 := HU.out.ownGe (g := w.heap.size + 1) (by omega) 1; have z12 := HU.out.ownGe (g := w.heap.size + 1) (by omega) 2; have z13 := HU.out.ownGe (g := w.heap.size + 1) (by omega) 3; clear hu)
  refine bodyPost_ret (v := .tuple #[.agg #[.int .i64 0, .int .i64 0, .int .i64 0, .slice none 0 0], .int .i64 1]) (by simp [results, Try.results25, go_sem, c10, c11, c12, c13]) rfl ⟨rfl, ?_⟩
  exact (HU.out.set4 (by omega))

set_option maxHeartbeats 4000000 in
set_option maxRecDepth 100000 in
theorem rotate_empty (c h k n : Nat) (A : Option Addr) (M : List It) (hc : 1 ≤ c) (hc' : c ≤ 65536) (hh : h < c) (hM : M.length ≤ c) (hn : n ≤ 65536) (ht : M.length = 0) (w : World) (hS : Sl w A c (ofL c h M)) :
    Calls Try.prog 25 #[.agg #[.int .i64 c, .int .i64 h, .int .i64 M.length, .slice A c k], .int .i64 n] w fun e w' => ∃ g, e = .returned (.tuple #[.agg #[.int .i64 c, .int .i64 h, .int .i64 M.length, .slice (some ⟨g, 0, none⟩) c c], .int .i64 0]) ∧ w.heap.size ≤ g ∧ Bi w' g (ofL c h M) ∧ Up w w' := by
  have t1 : decide ((n : Int) < 0) = false := decide_eq_false (by omega)
  have t2 : decide (65536 < (n : Int)) = false := decide_eq_false (by omega)
  have K1 := Lib.hid (val_good c h k A M hc hc' hh hM ((w.alloc (.cells #[.int .i64 c, .int .i64 h, .int .i64 M.length, .slice A c k] 24)).alloc (.cells #[.int .i64 0, .int .i64 0, .int .i64 0, .slice none 0 0] 24)) (hS.up (((Up.refl w).alloc _ _).alloc _ _)))
  have HS := Lib.hid hS
  clear hS
  obtain ⟨l, hl⟩ : ∃ l, l = M.length := ⟨_, rfl⟩
  have HL := Lib.hid hl
  rw [← hl] at hM ht K1 ⊢
  clear hl
  have t3 : ((l : Int) == 0) = true := by simp; omega
  have t4 : (l == 0) = true := by simp; omega
  clear ht
  go_enter Try.func25, Try.ntmps25
  go_wp2_with (first
    | (go_at_call 13; refine K1.out.mono ?_; rintro e w1 ⟨rfl, hu⟩; have HU1 := Lib.hid ((((Up.refl w).alloc _ _).alloc _ _).trans hu); have c00 := hu.keep (w.heap.size) 0 (.int .i64 c) (by simp [go_sem]); have c01 := hu.keep (w.heap.size) 1 (.int .i64 h) (by simp [go_sem]); have c02 := hu.keep (w.heap.size) 2 (.int .i64 l) (by simp [go_sem]); have c03 := hu.keep (w.heap.size) 3 (.slice A c k) (by simp [go_sem]); have c10 := hu.keep (w.heap.size + 1) 0 (.int .i64 0) (by simp [go_sem]); have c11 := hu.keep (w.heap.size + 1) 1 (.int .i64 0) (by simp [go_sem]); have c12 := hu.keep (w.heap.size + 1) 2 (.int .i64 0) (by simp [go_sem]); have c13 := hu.keep (w.heap.size + 1) 3 (.slice none 0 0) (by simp [go_sem]); have hls := hu.size; (try simp at hls); clear hu)
    | (go_at_call 33; refine (own_any c k h l A (ofL c h M) hc' _ (HS.out.up HU1.out)).mono ?_; rintro e w2 ⟨g, rfl, hg, hb, hu⟩; have HU2 := Lib.hid (HU1.out.trans hu); have HB2 := Lib.hid hb; have d00 := hu.keep _ _ _ c00; have d01 := hu.keep _ _ _ c01; have d02 := hu.keep _ _ _ c02; have d03 := hu.keep _ _ _ c03; have d10 := hu.keep _ _ _ c10; have d11 := hu.keep _ _ _ c11; have d12 := hu.keep _ _ _ c12; have d13 := hu.keep _ _ _ c13; have f00 := HU2.out.ownGe (g := w.heap.size) (by omega) 0; have f01 := HU2.out.ownGe (g := w.heap.size) (by omega) 1; have f02 := HU2.out.ownGe (g := w.heap.size) (by omega) 2; have f03 := HU2.out.ownGe (g := w.heap.size) (by omega) 3; have f10 := HU2.out.ownGe (g := w.heap.size + 1) (by omega) 0; have f11 := HU2.out.ownGe (g := w.heap.size + 1) (by omega) 1; have f12 := HU2.out.ownGe (g := w.heap.size + 1) (by omega) 2; have f13 := HU2.out.ownGe (g := w.heap.size + 1) (by omega) 3; clear hu hb))
  refine bodyPost_ret (v := .tuple #[.agg #[.int .i64 c, .int .i64 h, .int .i64 l, .slice (some ⟨g, 0, none⟩) c c], .int .i64 0]) (by simp [results, Try.results25, go_sem, d10, d11, d12, d13]) rfl ⟨g, rfl, by omega, ?_, ?_⟩
  · exact (HB2.out.far4 (p := w.heap.size) (by omega)).far4 (p := w.heap.size + 1) (by omega)
  · exact (HU2.out.set4 (p := w.heap.size) (by omega)).set4 (p := w.heap.size + 1) (by omega)

set_option maxHeartbeats 4000000 in
set_option maxRecDepth 100000 in
theorem rotate_good (c h k n : Nat) (A : Option Addr) (M : List It) (hc : 1 ≤ c) (hc' : c ≤ 65536) (hh : h < c) (hM : M.length ≤ c) (hn : n ≤ 65536) (ht : 0 < M.length) (w : World) (hS : Sl w A c (ofL c h M)) :
    Calls Try.prog 25 #[.agg #[.int .i64 c, .int .i64 h, .int .i64 M.length, .slice A c k], .int .i64 n] w fun e w' => ∃ g, e = .returned (.tuple #[.agg #[.int .i64 c, .int .i64 (((h + n) % c : Nat) : Int), .int .i64 M.length, .slice (some ⟨g, 0, none⟩) c c], .int .i64 0]) ∧ w.heap.size ≤ g ∧ Bi w' g (ofL c ((h + n) % c) (rotL M n)) ∧ Up w w' := by
  have t1 : decide ((n : Int) < 0) = false := decide_eq_false (by omega)
  have t2 : decide (65536 < (n : Int)) = false := decide_eq_false (by omega)
  have K1 := Lib.hid (val_good c h k A M hc hc' hh hM ((w.alloc (.cells #[.int .i64 c, .int .i64 h, .int .i64 M.length, .slice A c k] 24)).alloc (.cells #[.int .i64 0, .int .i64 0, .int .i64 0, .slice none 0 0] 24)) (hS.up (((Up.refl w).alloc _ _).alloc _ _)))
  have HS := Lib.hid hS
  clear hS
  obtain ⟨l, hl⟩ : ∃ l, l = M.length := ⟨_, rfl⟩
  have HL := Lib.hid hl
  rw [← hl] at hM ht K1 ⊢
  clear hl
  have t3 : ((l : Int) == 0) = false := by simp; omega
  have t4 : (l == 0) = false := by simp; omega
  go_enter Try.func25, Try.ntmps25
  go_wp2_with (first
    | (go_at_call 13; refine K1.out.mono ?_; rintro e w1 ⟨rfl, hu⟩; have HU1 := Lib.hid ((((Up.refl w).alloc _ _).alloc _ _).trans hu); have c00 := hu.keep (w.heap.size) 0 (.int .i64 c) (by simp [go_sem]); have c01 := hu.keep (w.heap.size) 1 (.int .i64 h) (by simp [go_sem]); have c02 := hu.keep (w.heap.size) 2 (.int .i64 l) (by simp [go_sem]); have c03 := hu.keep (w.heap.size) 3 (.slice A c k) (by simp [go_sem]); have c10 := hu.keep (w.heap.size + 1) 0 (.int .i64 0) (by simp [go_sem]); have c11 := hu.keep (w.heap.size + 1) 1 (.int .i64 0) (by simp [go_sem]); have c12 := hu.keep (w.heap.size + 1) 2 (.int .i64 0) (by simp [go_sem]); have c13 := hu.keep (w.heap.size + 1) 3 (.slice none 0 0) (by simp [go_sem]); have hls := hu.size; (try simp at hls); clear hu)
    | (go_at_call 33; refine (own_any c k h l A (ofL c h M) hc' _ (HS.out.up HU1.out)).mono ?_; rintro e w2 ⟨g, rfl, hg, hb, hu⟩; have HU2 := Lib.hid (HU1.out.trans hu); have HB2 := Lib.hid hb; have d00 := hu.keep _ _ _ c00; have d01 := hu.keep _ _ _ c01; have d02 := hu.keep _ _ _ c02; have d03 := hu.keep _ _ _ c03; have d10 := hu.keep _ _ _ c10; have d11 := hu.keep _ _ _ c11; have d12 := hu.keep _ _ _ c12; have d13 := hu.keep _ _ _ c13; have f00 := HU2.out.ownGe (g := w.heap.size) (by omega) 0; have f01 := HU2.out.ownGe (g := w.heap.size) (by omega) 1; have f02 := HU2.out.ownGe (g := w.heap.size) (by omega) 2; have f03 := HU2.out.ownGe (g := w.heap.size) (by omega) 3; have f10 := HU2.out.ownGe (g := w.heap.size + 1) (by omega) 0; have f11 := HU2.out.ownGe (g := w.heap.size + 1) (by omega) 1; have f12 := HU2.out.ownGe (g := w.heap.size + 1) (by omega) 2; have f13 := HU2.out.ownGe (g := w.heap.size + 1) (by omega) 3; clear hu hb))
  have HR3 := Lib.hid (Rt.of_store (c := c) (h := h) (l := l) d00 d01 d02 d03 HB2.out (fun o => HU2.out.ownGe (Nat.le_refl _) o) (show w.heap.size ≠ g by omega) (ofL_length c h M))
  have HU3 := Lib.hid (HU2.out.set4 (p := w.heap.size) (v0 := .int .i64 c) (v1 := .int .i64 h) (v2 := .int .i64 l) (v3 := .slice (some ⟨g, 0, none⟩) c c) (Nat.le_refl _))
  have E10 := Lib.hid (far4 (p := w.heap.size) (v0 := .int .i64 c) (v1 := .int .i64 h) (v2 := .int .i64 l) (v3 := .slice (some ⟨g, 0, none⟩) c c) d10 (by omega))
  have E11 := Lib.hid (far4 (p := w.heap.size) (v0 := .int .i64 c) (v1 := .int .i64 h) (v2 := .int .i64 l) (v3 := .slice (some ⟨g, 0, none⟩) c c) d11 (by omega))
  have E12 := Lib.hid (far4 (p := w.heap.size) (v0 := .int .i64 c) (v1 := .int .i64 h) (v2 := .int .i64 l) (v3 := .slice (some ⟨g, 0, none⟩) c c) d12 (by omega))
  have E13 := Lib.hid (far4 (p := w.heap.size) (v0 := .int .i64 c) (v1 := .int .i64 h) (v2 := .int .i64 l) (v3 := .slice (some ⟨g, 0, none⟩) c c) d13 (by omega))
  have hs2 : w.heap.size + 1 < w2.heap.size := World.block_lt_of_cell? _ _ d10
  have hg2 : g < w2.heap.size := Blk.lt HB2.out
  obtain ⟨w3, hw3⟩ : ∃ w3, w3 = (((w2.setCell ⟨w.heap.size, 0, none⟩ (.int .i64 c)).setCell ⟨w.heap.size, 1, none⟩ (.int .i64 h)).setCell ⟨w.heap.size, 2, none⟩ (.int .i64 l)).setCell ⟨w.heap.size, 3, none⟩ (.slice (some ⟨g, 0, none⟩) c c) := ⟨_, rfl⟩
  have hs3 : w3.heap.size = w2.heap.size := by rw [hw3]; simp [World.setCell]
  rw [← hw3] at HR3 HU3 E10 E11 E12 E13
  have D0 := HR3.out.c0
  have D1 := HR3.out.c1
  have D2 := HR3.out.c2
  have D3 := HR3.out.c3
  have e10 := E10.out
  have e11 := E11.out
  have e12 := E12.out
  have e13 := E13.out
  clear c00 c01 c02 c03 c10 c11 c12 c13 d00 d01 d02 d03 d10 d11 d12 d13 f00 f01 f02 f03 f10 f11 f12 f13 E10 E11 E12 E13
  rw [← hw3]
  clear hw3
  have HW0 := Lib.hid (Wr.refl w3 w.heap.size g)
  have E10 := Lib.hid e10
  have E11 := Lib.hid e11
  have E12 := Lib.hid e12
  have E13 := Lib.hid e13
  clear e10 e11 e12 e13 D0 D1 D2 D3
  go_loopw [27] (fun t wr => ∃ j : Nat, t = .int .i64 j ∧ j ≤ n ∧ Hid (Rt wr w.heap.size g c ((h + j) % c) l (ofL c ((h + j) % c) (rotL M j))) ∧ Hid (Wr w3 wr w.heap.size g)) (fun t _ => n - (intOf t).toNat)
  case atStart =>
    refine ⟨0, rfl, Nat.zero_le _, Lib.hid ?_, HW0⟩
    rw [rotL_zero, Nat.add_zero, Nat.mod_eq_of_lt hh]
    exact HR3.out
  case round =>
    obtain ⟨j, rfl, j2, HR, HW⟩ := hrel
    by_cases hlt : j < n
    · have hm : (h + j) % c < c := Nat.mod_lt _ (by omega)
      have hrl : (rotL M j).length = l := by rw [rotL_length, HL.out]
      have T1 := takeFirst_l w.heap.size g c ((h + j) % c) l (ofL c ((h + j) % c) (rotL M j)) hc hc' hm ht hM wr HR.out
      rw [ofL_head c _ (rotL M j) hm] at T1
      have HE := Lib.hid (turn_step c ((h + j) % c) (rotL M j) hm (by rw [hrl]; exact ht) (by rw [hrl]; exact hM))
      rw [hrl, ← rotL_step M j (by rw [← HL.out]; exact ht)] at HE
      obtain ⟨p0, hp0⟩ : ∃ p, p = ((rotL M j).getD 0 (0, 0)).1 := ⟨_, rfl⟩
      obtain ⟨p1, hp1⟩ : ∃ p, p = ((rotL M j).getD 0 (0, 0)).2 := ⟨_, rfl⟩
      rw [← hp0, ← hp1] at T1
      rw [show (rotL M j).getD 0 (0, 0) = (p0, p1) by rw [hp0, hp1]] at HE
      rw [head_step] at T1 HE
      have hm' : (h + (j + 1)) % c < c := Nat.mod_lt _ (by omega)
      have K1 := Lib.hid T1
      have K2 := Lib.hid (fun W hR => putLast_any w.heap.size g c ((h + (j + 1)) % c) (l - 1) p0 p1 ((ofL c ((h + j) % c) (rotL M j)).set ((h + j) % c) (0, 0)) hc hc' hm' (by omega) W hR)
      rw [HE.out, show l - 1 + 1 = l by omega] at K2
      clear T1 hp0 hp1 hrl HE hm hm'
      go_wp2_with (first
        | (go_at_call 36; (with_reducible refine K1.out.mono ?_); rintro e w5 ⟨rfl, hW5, hR5⟩; have HW5 := Lib.hid hW5; have HR5 := Lib.hid hR5; clear hW5 hR5)
        | (go_at_call 34; (with_reducible refine (K2.out w5 HR5.out).mono ?_); rintro e w6 ⟨rfl, hW6, hR6⟩; have HW6 := Lib.hid hW6; have HR6 := Lib.hid hR6; clear hW6 hR6))
      go_roundw
      case rel => exact ⟨j + 1, by go_num, by omega, HR6, Lib.hid ((HW.out.trans HW5.out).trans HW6.out)⟩
      case measure => simp [intOf]; omega
    · obtain rfl : j = n := by omega
      have a0 := HR.out.c0
      have a1 := HR.out.c1
      have a2 := HR.out.c2
      have a3 := HR.out.c3
      have z10 := HW.out.keep (by omega) (by omega) E10.out
      have z11 := HW.out.keep (by omega) (by omega) E11.out
      have z12 := HW.out.keep (by omega) (by omega) E12.out
      have z13 := HW.out.keep (by omega) (by omega) E13.out
      have y10 := (HW.out.fr ⟨w.heap.size + 1, 0, none⟩).trans (HU3.out.ownGe (g := w.heap.size + 1) (by omega) 0)
      have y11 := (HW.out.fr ⟨w.heap.size + 1, 1, none⟩).trans (HU3.out.ownGe (g := w.heap.size + 1) (by omega) 1)
      have y12 := (HW.out.fr ⟨w.heap.size + 1, 2, none⟩).trans (HU3.out.ownGe (g := w.heap.size + 1) (by omega) 2)
      have y13 := (HW.out.fr ⟨w.heap.size + 1, 3, none⟩).trans (HU3.out.ownGe (g := w.heap.size + 1) (by omega) 3)
      generalize hmm : (h + j) % c = m at *
      have HM := Lib.hid hmm
      clear hmm
      go_wp2_with fail
      refine bodyPost_ret (v := .tuple #[.agg #[.int .i64 c, .int .i64 m, .int .i64 l, .slice (some ⟨g, 0, none⟩) c c], .int .i64 0]) (by simp [results, Try.results25, go_sem, z10, z11, z12, z13]) rfl ⟨g, by rw [HM.out], by omega, ?_, ?_⟩
      · rw [HM.out]; exact HR.out.bi.far4 (p := w.heap.size + 1) (by omega)
      · exact (HW.out.up w HU3.out (Nat.le_refl _) (by omega)).set4 (p := w.heap.size + 1) (by omega)
end Go.Proofs.Ytjedcpfipebncaa
