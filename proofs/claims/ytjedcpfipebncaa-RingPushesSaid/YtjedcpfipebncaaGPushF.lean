/- What PushFront of package ring returns. -/
import Derived.Test.YtjedcpfipebncaaGAt
import Derived.Test.YtjedcpfipebncaaGPut
namespace Go.Proofs.Ytjedcpfipebncaa
open Go.RowKit

set_option maxHeartbeats 4000000 in
set_option maxRecDepth 100000 in
theorem pushFront_good (c h k : Nat) (A : Option Addr) (M : List It) (x0 x1 : Int) (hc : 1 ≤ c) (hc' : c ≤ 65536) (hh : h < c) (hM : M.length ≤ c) (ht : M.length < c) (w : World) (hS : Sl w A c (ofL c h M)) :
    Calls Try.prog 21 #[.agg #[.int .i64 c, .int .i64 h, .int .i64 M.length, .slice A c k], .agg #[.int .i64 x0, .int .i64 x1]] w fun e w' => ∃ g, e = .returned (.tuple #[.agg #[.int .i64 c, .int .i64 (((h + (c - 1)) % c : Nat) : Int), .int .i64 ((M.length + 1 : Nat) : Int), .slice (some ⟨g, 0, none⟩) c c], .int .i64 0]) ∧ w.heap.size ≤ g ∧ Bi w' g (ofL c ((h + (c - 1)) % c) ((x0, x1) :: M)) ∧ Up w w' := by
  have K1 := Lib.hid (canPush_free c h k A M hc hc' hh hM ht (((w.alloc (.cells #[.int .i64 c, .int .i64 h, .int .i64 M.length, .slice A c k] 24)).alloc (.cells #[.int .i64 x0, .int .i64 x1] 35)).alloc (.cells #[.int .i64 0, .int .i64 0, .int .i64 0, .slice none 0 0] 24)) (hS.up ((((Up.refl w).alloc _ _).alloc _ _).alloc _ _)))
  have HS := Lib.hid hS
  clear hS
  obtain ⟨l, hl⟩ : ∃ l, l = M.length := ⟨_, rfl⟩
  have HL := Lib.hid hl
  rw [← hl] at hM ht K1 ⊢
  clear hl
  go_enter Try.func21, Try.ntmps21
  go_wp2_with (first
    | (go_at_call 32; refine K1.out.mono ?_; rintro e w1 ⟨rfl, hu⟩; have HU1 := Lib.hid (((((Up.refl w).alloc _ _).alloc _ _).alloc _ _).trans hu); have c00 := hu.keep (w.heap.size) 0 (.int .i64 c) (by simp [go_sem]); have c01 := hu.keep (w.heap.size) 1 (.int .i64 h) (by simp [go_sem]); have c02 := hu.keep (w.heap.size) 2 (.int .i64 l) (by simp [go_sem]); have c03 := hu.keep (w.heap.size) 3 (.slice A c k) (by simp [go_sem]); have c10 := hu.keep (w.heap.size + 1) 0 (.int .i64 x0) (by simp [go_sem]); have c11 := hu.keep (w.heap.size + 1) 1 (.int .i64 x1) (by simp [go_sem]); have c20 := hu.keep (w.heap.size + 1 + 1) 0 (.int .i64 0) (by simp [go_sem]); have c21 := hu.keep (w.heap.size + 1 + 1) 1 (.int .i64 0) (by simp [go_sem]); have c22 := hu.keep (w.heap.size + 1 + 1) 2 (.int .i64 0) (by simp [go_sem]); have c23 := hu.keep (w.heap.size + 1 + 1) 3 (.slice none 0 0) (by simp [go_sem]); have hls := hu.size; (try simp at hls); clear hu)
    | (go_at_call 33; refine (own_any c k h l A (ofL c h M) hc' _ (HS.out.up HU1.out)).mono ?_; rintro e w2 ⟨g, rfl, hg, hb, hu⟩; have HU2 := Lib.hid (HU1.out.trans hu); have HB2 := Lib.hid hb; have d00 := hu.keep _ _ _ c00; have d01 := hu.keep _ _ _ c01; have d02 := hu.keep _ _ _ c02; have d03 := hu.keep _ _ _ c03; have d10 := hu.keep _ _ _ c10; have d11 := hu.keep _ _ _ c11; have d20 := hu.keep _ _ _ c20; have d21 := hu.keep _ _ _ c21; have d22 := hu.keep _ _ _ c22; have d23 := hu.keep _ _ _ c23; have f00 := HU2.out.ownGe (g := w.heap.size) (by omega) 0; have f01 := HU2.out.ownGe (g := w.heap.size) (by omega) 1; have f02 := HU2.out.ownGe (g := w.heap.size) (by omega) 2; have f03 := HU2.out.ownGe (g := w.heap.size) (by omega) 3; have f10 := HU2.out.ownGe (g := w.heap.size + 1) (by omega) 0; have f11 := HU2.out.ownGe (g := w.heap.size + 1) (by omega) 1; have f20 := HU2.out.ownGe (g := w.heap.size + 1 + 1) (by omega) 0; have f21 := HU2.out.ownGe (g := w.heap.size + 1 + 1) (by omega) 1; have f22 := HU2.out.ownGe (g := w.heap.size + 1 + 1) (by omega) 2; have f23 := HU2.out.ownGe (g := w.heap.size + 1 + 1) (by omega) 3; clear hu hb))
  have HR3 := Lib.hid (Rt.of_store (c := c) (h := h) (l := l) d00 d01 d02 d03 HB2.out (fun o => HU2.out.ownGe (Nat.le_refl _) o) (show w.heap.size ≠ g by omega) (ofL_length c h M))
  have HU3 := Lib.hid (HU2.out.set4 (p := w.heap.size) (v0 := .int .i64 c) (v1 := .int .i64 h) (v2 := .int .i64 l) (v3 := .slice (some ⟨g, 0, none⟩) c c) (Nat.le_refl _))
  have E10 := Lib.hid (far4 (p := w.heap.size) (v0 := .int .i64 c) (v1 := .int .i64 h) (v2 := .int .i64 l) (v3 := .slice (some ⟨g, 0, none⟩) c c) d10 (by omega))
  have E11 := Lib.hid (far4 (p := w.heap.size) (v0 := .int .i64 c) (v1 := .int .i64 h) (v2 := .int .i64 l) (v3 := .slice (some ⟨g, 0, none⟩) c c) d11 (by omega))
  have E20 := Lib.hid (far4 (p := w.heap.size) (v0 := .int .i64 c) (v1 := .int .i64 h) (v2 := .int .i64 l) (v3 := .slice (some ⟨g, 0, none⟩) c c) d20 (by omega))
  have E21 := Lib.hid (far4 (p := w.heap.size) (v0 := .int .i64 c) (v1 := .int .i64 h) (v2 := .int .i64 l) (v3 := .slice (some ⟨g, 0, none⟩) c c) d21 (by omega))
  have E22 := Lib.hid (far4 (p := w.heap.size) (v0 := .int .i64 c) (v1 := .int .i64 h) (v2 := .int .i64 l) (v3 := .slice (some ⟨g, 0, none⟩) c c) d22 (by omega))
  have E23 := Lib.hid (far4 (p := w.heap.size) (v0 := .int .i64 c) (v1 := .int .i64 h) (v2 := .int .i64 l) (v3 := .slice (some ⟨g, 0, none⟩) c c) d23 (by omega))
  have hs2 : w.heap.size + 1 + 1 < w2.heap.size := World.block_lt_of_cell? _ _ d20
  have hg2 : g < w2.heap.size := Blk.lt HB2.out
  obtain ⟨w3, hw3⟩ : ∃ w3, w3 = (((w2.setCell ⟨w.heap.size, 0, none⟩ (.int .i64 c)).setCell ⟨w.heap.size, 1, none⟩ (.int .i64 h)).setCell ⟨w.heap.size, 2, none⟩ (.int .i64 l)).setCell ⟨w.heap.size, 3, none⟩ (.slice (some ⟨g, 0, none⟩) c c) := ⟨_, rfl⟩
  have hs3 : w3.heap.size = w2.heap.size := by rw [hw3]; simp [World.setCell]
  rw [← hw3] at HR3 HU3 E10 E11 E20 E21 E22 E23
  have D0 := HR3.out.c0
  have D1 := HR3.out.c1
  have D2 := HR3.out.c2
  have D3 := HR3.out.c3
  have e10 := E10.out
  have e11 := E11.out
  have e20 := E20.out
  have e21 := E21.out
  have e22 := E22.out
  have e23 := E23.out
  clear c00 c01 c02 c03 c10 c11 c20 c21 c22 c23 d00 d01 d02 d03 d10 d11 d20 d21 d22 d23 f00 f01 f02 f03 f10 f11 f20 f21 f22 f23 E10 E11 E20 E21 E22 E23
  rw [← hw3]
  clear hw3
  have hm : (h + (c - 1)) % c < c := Nat.mod_lt _ (by omega)
  refine (place_any c h l ((c : Int) - 1) (.slice (some ⟨g, 0, none⟩) c c) (by omega) (by omega) (by omega) (by omega) (by omega) (by omega) w3).mono ?_
  rintro e w4 ⟨rfl, hu4⟩
  have HE : Hid (ofL c ((h + (c - 1)) % c) ((x0, x1) :: M) = (ofL c h M).set ((h + (c - 1)) % c) (x0, x1)) := Lib.hid (push_front c h M (x0, x1) hh (by rw [← HL.out]; exact ht)).symm
  have hi : ((h : Int) + ((c : Int) - 1)) % c = (((h + (c - 1)) % c : Nat) : Int) := by
    rw [Int.natCast_emod, Int.natCast_add, Int.natCast_sub (by omega)]; rfl
  rw [hi]
  clear hi
  generalize hmm : (h + (c - 1)) % c = m at *
  have HM := Lib.hid hmm
  clear hmm
  have f2 : (m : Int) < c := by omega
  have f3 : (0 : Int) ≤ m := by omega
  have HU4 := Lib.hid (HU3.out.trans hu4)
  have HR4 := Lib.hid (HR3.out.up hu4)
  have a1 := HR4.out.c1
  have a0 := HR4.out.c0
  have a2 := HR4.out.c2
  have a3 := HR4.out.c3
  have i1 := HR4.out.fz 1
  have i2 := HR4.out.fz 2
  obtain ⟨s0, s1⟩ := Bi.at_ HR4.out.bi (k := m) (by rw [ofL_length]; exact hm)
  have j0 := Blk.frozen HR4.out.bi (m * 2)
  have j1 := Blk.frozen HR4.out.bi (m * 2 + 1)
  have t10 := hu4.keep _ _ _ e10
  have t11 := hu4.keep _ _ _ e11
  have z20 := hu4.keep _ _ _ e20
  have z21 := hu4.keep _ _ _ e21
  have z22 := hu4.keep _ _ _ e22
  have z23 := hu4.keep _ _ _ e23
  have y20 := HU4.out.ownGe (g := w.heap.size + 1 + 1) (by omega) 0
  have y21 := HU4.out.ownGe (g := w.heap.size + 1 + 1) (by omega) 1
  have y22 := HU4.out.ownGe (g := w.heap.size + 1 + 1) (by omega) 2
  have y23 := HU4.out.ownGe (g := w.heap.size + 1 + 1) (by omega) 3
  have n1 : ¬ g = w.heap.size := by omega
  have n2 : ¬ w.heap.size = g := by omega
  have n3 : ¬ g = w.heap.size + 1 := by omega
  have n4 : ¬ g = w.heap.size + 1 + 1 := by omega
  have n5 : ¬ w.heap.size + 1 = g := by omega
  have n6 : ¬ w.heap.size + 1 + 1 = g := by omega
  clear hu4 D0 D1 D2 D3 e10 e11 e20 e21 e22 e23 hs3
  generalize ((ofL c h M).getD m (0, 0)).1 = r0 at *
  generalize ((ofL c h M).getD m (0, 0)).2 = r1 at *
  go_wp2_with fail
  refine bodyPost_ret (v := .tuple #[.agg #[.int .i64 c, .int .i64 m, .int .i64 ((l : Int) + 1), .slice (some ⟨g, 0, none⟩) c c], .int .i64 0]) (by simp [results, Try.results21, go_sem, z20, z21, z22, z23]) rfl ⟨g, by rw [HM.out]; rfl, by omega, ?_, ?_⟩
  · have hb := (((HR4.out.setHead m).put m x0 x1).setLen (l + 1)).bi
    rw [HM.out, HE.out]
    exact hb.far4 (by omega)
  · exact (((((HU4.out.setCell (Nat.le_refl _) _).setCell (by show w.heap.size ≤ g; omega) _).setCell (by show w.heap.size ≤ g; omega) _).setCell (Nat.le_refl _) _)).set4 (by omega)
end Go.Proofs.Ytjedcpfipebncaa
