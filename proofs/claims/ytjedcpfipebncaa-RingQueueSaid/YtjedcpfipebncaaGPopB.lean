/- What PopBack of package ring returns. -/
import Derived.Test.YtjedcpfipebncaaGAt
import Derived.Test.YtjedcpfipebncaaGPh
import Derived.Test.YtjedcpfipebncaaGMath2
namespace Go.Proofs.Ytjedcpfipebncaa
open Go.RowKit

set_option maxHeartbeats 4000000 in
set_option maxRecDepth 100000 in
theorem popBack_good (c h k : Nat) (A : Option Addr) (M : List It) (hc : 1 ≤ c) (hc' : c ≤ 65536) (hh : h < c) (hM : M.length ≤ c) (ht : 0 < M.length) (w : World) (hS : Sl w A c (ofL c h M)) :
    Calls Try.prog 24 #[.agg #[.int .i64 c, .int .i64 h, .int .i64 M.length, .slice A c k]] w fun e w' => ∃ g, e = .returned (.tuple #[.agg #[.int .i64 c, .int .i64 h, .int .i64 ((M.length - 1 : Nat) : Int), .slice (some ⟨g, 0, none⟩) c c], .agg #[.int .i64 (M.getD (M.length - 1) (0, 0)).1, .int .i64 (M.getD (M.length - 1) (0, 0)).2], .int .i64 0]) ∧ w.heap.size ≤ g ∧ Bi w' g (ofL c h (M.take (M.length - 1))) ∧ Up w w' := by
  have K1 := Lib.hid (canPop_some c h k A M hc hc' hh hM ht (((w.alloc (.cells #[.int .i64 c, .int .i64 h, .int .i64 M.length, .slice A c k] 24)).alloc (.cells #[.int .i64 0, .int .i64 0, .int .i64 0, .slice none 0 0] 24)).alloc (.cells #[.int .i64 0, .int .i64 0] 35)) (hS.up ((((Up.refl w).alloc _ _).alloc _ _).alloc _ _)))
  have HS := Lib.hid hS
  clear hS
  obtain ⟨l, hl⟩ : ∃ l, l = M.length := ⟨_, rfl⟩
  have HL := Lib.hid hl
  rw [← hl] at hM ht K1 ⊢
  clear hl
  go_enter Try.func24, Try.ntmps24
  go_wp2_with (first
    | (go_at_call 35; refine K1.out.mono ?_; rintro e w1 ⟨rfl, hu⟩; have HU1 := Lib.hid (((((Up.refl w).alloc _ _).alloc _ _).alloc _ _).trans hu); have c00 := hu.keep (w.heap.size) 0 (.int .i64 c) (by simp [go_sem]); have c01 := hu.keep (w.heap.size) 1 (.int .i64 h) (by simp [go_sem]); have c02 := hu.keep (w.heap.size) 2 (.int .i64 l) (by simp [go_sem]); have c03 := hu.keep (w.heap.size) 3 (.slice A c k) (by simp [go_sem]); have c10 := hu.keep (w.heap.size + 1) 0 (.int .i64 0) (by simp [go_sem]); have c11 := hu.keep (w.heap.size + 1) 1 (.int .i64 0) (by simp [go_sem]); have c12 := hu.keep (w.heap.size + 1) 2 (.int .i64 0) (by simp [go_sem]); have c13 := hu.keep (w.heap.size + 1) 3 (.slice none 0 0) (by simp [go_sem]); have c20 := hu.keep (w.heap.size + 1 + 1) 0 (.int .i64 0) (by simp [go_sem]); have c21 := hu.keep (w.heap.size + 1 + 1) 1 (.int .i64 0) (by simp [go_sem]); have hls := hu.size; (try simp at hls); clear hu)
    | (go_at_call 33; refine (own_any c k h l A (ofL c h M) hc' _ (HS.out.up HU1.out)).mono ?_; rintro e w2 ⟨g, rfl, hg, hb, hu⟩; have HU2 := Lib.hid (HU1.out.trans hu); have HB2 := Lib.hid hb; have d00 := hu.keep _ _ _ c00; have d01 := hu.keep _ _ _ c01; have d02 := hu.keep _ _ _ c02; have d03 := hu.keep _ _ _ c03; have d10 := hu.keep _ _ _ c10; have d11 := hu.keep _ _ _ c11; have d12 := hu.keep _ _ _ c12; have d13 := hu.keep _ _ _ c13; have d20 := hu.keep _ _ _ c20; have d21 := hu.keep _ _ _ c21; have f00 := HU2.out.ownGe (g := w.heap.size) (by omega) 0; have f01 := HU2.out.ownGe (g := w.heap.size) (by omega) 1; have f02 := HU2.out.ownGe (g := w.heap.size) (by omega) 2; have f03 := HU2.out.ownGe (g := w.heap.size) (by omega) 3; have f10 := HU2.out.ownGe (g := w.heap.size + 1) (by omega) 0; have f11 := HU2.out.ownGe (g := w.heap.size + 1) (by omega) 1; have f12 := HU2.out.ownGe (g := w.heap.size + 1) (by omega) 2; have f13 := HU2.out.ownGe (g := w.heap.size + 1) (by omega) 3; have f20 := HU2.out.ownGe (g := w.heap.size + 1 + 1) (by omega) 0; have f21 := HU2.out.ownGe (g := w.heap.size + 1 + 1) (by omega) 1; clear hu hb))
  have HR3 := Lib.hid (Rt.of_store (c := c) (h := h) (l := l) d00 d01 d02 d03 HB2.out (fun o => HU2.out.ownGe (Nat.le_refl _) o) (show w.heap.size ≠ g by omega) (ofL_length c h M))
  have HU3 := Lib.hid (HU2.out.set4 (p := w.heap.size) (v0 := .int .i64 c) (v1 := .int .i64 h) (v2 := .int .i64 l) (v3 := .slice (some ⟨g, 0, none⟩) c c) (Nat.le_refl _))
  have E10 := Lib.hid (far4 (p := w.heap.size) (v0 := .int .i64 c) (v1 := .int .i64 h) (v2 := .int .i64 l) (v3 := .slice (some ⟨g, 0, none⟩) c c) d10 (by omega))
  have E11 := Lib.hid (far4 (p := w.heap.size) (v0 := .int .i64 c) (v1 := .int .i64 h) (v2 := .int .i64 l) (v3 := .slice (some ⟨g, 0, none⟩) c c) d11 (by omega))
  have E12 := Lib.hid (far4 (p := w.heap.size) (v0 := .int .i64 c) (v1 := .int .i64 h) (v2 := .int .i64 l) (v3 := .slice (some ⟨g, 0, none⟩) c c) d12 (by omega))
  have E13 := Lib.hid (far4 (p := w.heap.size) (v0 := .int .i64 c) (v1 := .int .i64 h) (v2 := .int .i64 l) (v3 := .slice (some ⟨g, 0, none⟩) c c) d13 (by omega))
  have E20 := Lib.hid (far4 (p := w.heap.size) (v0 := .int .i64 c) (v1 := .int .i64 h) (v2 := .int .i64 l) (v3 := .slice (some ⟨g, 0, none⟩) c c) d20 (by omega))
  have E21 := Lib.hid (far4 (p := w.heap.size) (v0 := .int .i64 c) (v1 := .int .i64 h) (v2 := .int .i64 l) (v3 := .slice (some ⟨g, 0, none⟩) c c) d21 (by omega))
  have hs2 : w.heap.size + 1 + 1 < w2.heap.size := World.block_lt_of_cell? _ _ d20
  have hg2 : g < w2.heap.size := Blk.lt HB2.out
  obtain ⟨w3, hw3⟩ : ∃ w3, w3 = (((w2.setCell ⟨w.heap.size, 0, none⟩ (.int .i64 c)).setCell ⟨w.heap.size, 1, none⟩ (.int .i64 h)).setCell ⟨w.heap.size, 2, none⟩ (.int .i64 l)).setCell ⟨w.heap.size, 3, none⟩ (.slice (some ⟨g, 0, none⟩) c c) := ⟨_, rfl⟩
  have hs3 : w3.heap.size = w2.heap.size := by rw [hw3]; simp [World.setCell]
  rw [← hw3] at HR3 HU3 E10 E11 E12 E13 E20 E21
  have D0 := HR3.out.c0
  have D1 := HR3.out.c1
  have D2 := HR3.out.c2
  have D3 := HR3.out.c3
  have e10 := E10.out
  have e11 := E11.out
  have e12 := E12.out
  have e13 := E13.out
  have e20 := E20.out
  have e21 := E21.out
  clear c00 c01 c02 c03 c10 c11 c12 c13 c20 c21 d00 d01 d02 d03 d10 d11 d12 d13 d20 d21 f00 f01 f02 f03 f10 f11 f12 f13 f20 f21 E10 E11 E12 E13 E20 E21
  rw [← hw3]
  clear hw3
  obtain ⟨l', rfl⟩ : ∃ l', l = l' + 1 := ⟨l - 1, by omega⟩
  have hm : (h + l') % c < c := Nat.mod_lt _ (by omega)
  have T := place_any c h ((l' + 1 : Nat) : Int) (((l' + 1 : Nat) : Int) - 1) (.slice (some ⟨g, 0, none⟩) c c) (by omega) (by omega) (by omega) (by omega) (by omega) (by omega) w3
  have HE : Hid ((ofL c h M).set ((h + l') % c) (0, 0) = ofL c h (M.take l')) := Lib.hid (by
    have := pop_back' c h M hh (by rw [← HL.out]; omega) (by rw [← HL.out]; exact hM)
    rwa [← HL.out, show l' + 1 - 1 = l' by omega] at this)
  have HQ := Lib.hid (ofL_place c h M l' hh (by omega))
  have hi : ((h : Int) + (((l' + 1 : Nat) : Int) - 1)) % c = (((h + l') % c : Nat) : Int) := by rw [show ((l' + 1 : Nat) : Int) - 1 = (l' : Int) by omega]; rfl
  rw [hi] at T
  clear hi
  generalize (h + l') % c = m at *
  have f2 : (m : Int) < c := by omega
  have f3 : (0 : Int) ≤ m := by omega
  with_reducible refine T.mono ?_
  clear T
  rintro e w4 ⟨rfl, hu4⟩
  have HU4 := Lib.hid (HU3.out.trans hu4)
  have HR4 := Lib.hid (HR3.out.up hu4)
  have a0 := HR4.out.c0
  have a1 := HR4.out.c1
  have a2 := HR4.out.c2
  rw [show ((l' + 1 : Nat) : Int) = (l' : Int) + 1 from rfl] at a2
  have a3 := HR4.out.c3
  have i2 := HR4.out.fz 2
  obtain ⟨s0, s1⟩ := Bi.at_ HR4.out.bi (k := m) (by rw [ofL_length]; exact hm)
  rw [HQ.out] at s0 s1
  generalize hq0 : (M.getD l' (0, 0)).1 = q0 at *
  generalize hq1 : (M.getD l' (0, 0)).2 = q1 at *
  have HQ0 := Lib.hid hq0
  have HQ1 := Lib.hid hq1
  clear hq0 hq1
  have j0 := Blk.frozen HR4.out.bi (m * 2)
  have j1 := Blk.frozen HR4.out.bi (m * 2 + 1)
  have hs4 : w.heap.size < w4.heap.size := World.block_lt_of_cell? _ _ a0
  have hg4 : g < w4.heap.size := Blk.lt HR4.out.bi
  have n1 : ¬ g = w.heap.size := by omega
  have n2 : ¬ w.heap.size = g := by omega
  have n7 : ¬ w4.heap.size = g := by omega
  have n8 : ¬ g = w4.heap.size := by omega
  have z10 := hu4.keep _ _ _ e10
  have z11 := hu4.keep _ _ _ e11
  have z12 := hu4.keep _ _ _ e12
  have z13 := hu4.keep _ _ _ e13
  have z20 := hu4.keep _ _ _ e20
  have z21 := hu4.keep _ _ _ e21
  clear hu4 D0 D1 D2 D3 e10 e11 e12 e13 e20 e21 hs3
  go_wp2_with fail
  obtain ⟨w6, hw6⟩ : ∃ w6, w6 = ((w4.setCell ⟨g, m * 2, none⟩ (.int .i64 0)).setCell ⟨g, m * 2 + 1, none⟩ (.int .i64 0)).setCell ⟨w.heap.size, 2, none⟩ (.int .i64 l') := ⟨_, rfl⟩
  rw [← hw6]
  have HS6 : Hid (w6.heap.size = w4.heap.size) := Lib.hid (by rw [hw6]; simp [World.setCell])
  have HR6 : Hid (Rt w6 w.heap.size g c h l' (ofL c h (M.take l'))) := Lib.hid (by rw [hw6, ← HE.out]; exact (HR4.out.put m 0 0).setLen l')
  have HU6 : Hid (Up w w6) := Lib.hid (by rw [hw6]; exact ((HU4.out.setCell (by show w.heap.size ≤ g; omega) _).setCell (by show w.heap.size ≤ g; omega) _).setCell (Nat.le_refl _) _)
  have k10 : w6.cell? ⟨w.heap.size + 1, 0, none⟩ = some (.int .i64 0) := by rw [hw6, cell_far (by show w.heap.size ≠ w.heap.size + 1; omega), cell_far (by show g ≠ w.heap.size + 1; omega), cell_far (by show g ≠ w.heap.size + 1; omega)]; exact z10
  have y10 := HU6.out.ownGe (g := w.heap.size + 1) (by omega) 0
  have k11 : w6.cell? ⟨w.heap.size + 1, 1, none⟩ = some (.int .i64 0) := by rw [hw6, cell_far (by show w.heap.size ≠ w.heap.size + 1; omega), cell_far (by show g ≠ w.heap.size + 1; omega), cell_far (by show g ≠ w.heap.size + 1; omega)]; exact z11
  have y11 := HU6.out.ownGe (g := w.heap.size + 1) (by omega) 1
  have k12 : w6.cell? ⟨w.heap.size + 1, 2, none⟩ = some (.int .i64 0) := by rw [hw6, cell_far (by show w.heap.size ≠ w.heap.size + 1; omega), cell_far (by show g ≠ w.heap.size + 1; omega), cell_far (by show g ≠ w.heap.size + 1; omega)]; exact z12
  have y12 := HU6.out.ownGe (g := w.heap.size + 1) (by omega) 2
  have k13 : w6.cell? ⟨w.heap.size + 1, 3, none⟩ = some (.slice none 0 0) := by rw [hw6, cell_far (by show w.heap.size ≠ w.heap.size + 1; omega), cell_far (by show g ≠ w.heap.size + 1; omega), cell_far (by show g ≠ w.heap.size + 1; omega)]; exact z13
  have y13 := HU6.out.ownGe (g := w.heap.size + 1) (by omega) 3
  have k20 : w6.cell? ⟨w.heap.size + 1 + 1, 0, none⟩ = some (.int .i64 0) := by rw [hw6, cell_far (by show w.heap.size ≠ w.heap.size + 1 + 1; omega), cell_far (by show g ≠ w.heap.size + 1 + 1; omega), cell_far (by show g ≠ w.heap.size + 1 + 1; omega)]; exact z20
  have y20 := HU6.out.ownGe (g := w.heap.size + 1 + 1) (by omega) 0
  have k21 : w6.cell? ⟨w.heap.size + 1 + 1, 1, none⟩ = some (.int .i64 0) := by rw [hw6, cell_far (by show w.heap.size ≠ w.heap.size + 1 + 1; omega), cell_far (by show g ≠ w.heap.size + 1 + 1; omega), cell_far (by show g ≠ w.heap.size + 1 + 1; omega)]; exact z21
  have y21 := HU6.out.ownGe (g := w.heap.size + 1 + 1) (by omega) 1
  clear hw6 a0 a1 a2 a3 s0 s1 j0 j1 i2 z10 z11 z12 z13 z20 z21
  have z10 := k10
  clear k10
  have z11 := k11
  clear k11
  have z12 := k12
  clear k12
  have z13 := k13
  clear k13
  have z20 := k20
  clear k20
  have z21 := k21
  clear k21
  have a0 := HR6.out.c0
  have a1 := HR6.out.c1
  have a2 := HR6.out.c2
  have a3 := HR6.out.c3
  obtain ⟨w5, hw5⟩ : ∃ w5, w5 = w6.alloc (.cells #[.int .i64 q0, .int .i64 q1] 35) := ⟨_, rfl⟩
  rw [← hw5]
  have HU5 : Hid (Up w6 w5) := Lib.hid (by rw [hw5]; exact (Up.refl _).alloc _ _)
  have HUw : Hid (Up w w5) := Lib.hid ((HU6.out).trans HU5.out)
  have x0 : w5.cell? ⟨w4.heap.size, 0, none⟩ = some (.int .i64 q0) := by rw [hw5]; rw [← HS6.out]; simp [go_sem]
  have x1 : w5.cell? ⟨w4.heap.size, 1, none⟩ = some (.int .i64 q1) := by rw [hw5]; rw [← HS6.out]; simp [go_sem]
  clear hw5
  have hs5 : w.heap.size + 1 + 1 < w4.heap.size := by (rw [← HS6.out]; exact World.block_lt_of_cell? _ _ z20)
  have A0 := HU5.out.keep _ _ _ a0
  have A1 := HU5.out.keep _ _ _ a1
  have A2 := HU5.out.keep _ _ _ a2
  have A3 := HU5.out.keep _ _ _ a3
  have Z10 := HU5.out.keep _ _ _ z10
  have Y10 := (HU5.out.cells.2 _).trans y10
  have Z11 := HU5.out.keep _ _ _ z11
  have Y11 := (HU5.out.cells.2 _).trans y11
  have Z12 := HU5.out.keep _ _ _ z12
  have Y12 := (HU5.out.cells.2 _).trans y12
  have Z13 := HU5.out.keep _ _ _ z13
  have Y13 := (HU5.out.cells.2 _).trans y13
  have Z20 := HU5.out.keep _ _ _ z20
  have Y20 := (HU5.out.cells.2 _).trans y20
  have Z21 := HU5.out.keep _ _ _ z21
  have Y21 := (HU5.out.cells.2 _).trans y21
  clear a0 a1 a2 a3 z10 y10 z11 y11 z12 y12 z13 y13 z20 y20 z21 y21
  have SS : Hid (Up w w5 ∧ w5.cell? ⟨w.heap.size, 0, none⟩ = some (.int .i64 c) ∧ w5.cell? ⟨w.heap.size, 1, none⟩ = some (.int .i64 h) ∧ w5.cell? ⟨w.heap.size, 2, none⟩ = some (.int .i64 l') ∧ w5.cell? ⟨w.heap.size, 3, none⟩ = some (.slice (some ⟨g, 0, none⟩) c c) ∧ w5.cell? ⟨w4.heap.size, 0, none⟩ = some (.int .i64 q0) ∧ w5.cell? ⟨w4.heap.size, 1, none⟩ = some (.int .i64 q1)) := Lib.hid ⟨HUw.out, A0, A1, A2, A3, x0, x1⟩
  go_region_held3 (fun w' => Up w w' ∧ w'.cell? ⟨w.heap.size, 0, none⟩ = some (.int .i64 c) ∧ w'.cell? ⟨w.heap.size, 1, none⟩ = some (.int .i64 h) ∧ w'.cell? ⟨w.heap.size, 2, none⟩ = some (.int .i64 l') ∧ w'.cell? ⟨w.heap.size, 3, none⟩ = some (.slice (some ⟨g, 0, none⟩) c c) ∧ w'.cell? ⟨w4.heap.size, 0, none⟩ = some (.int .i64 q0) ∧ w'.cell? ⟨w4.heap.size, 1, none⟩ = some (.int .i64 q1))
    (repeat (first | (with_reducible refine set6 ?_ (by omega) (by omega) (by omega) (by omega) (by omega) (by omega) (by omega)) | (with_reducible exact SS.out) | (with_reducible assumption) | (with_reducible refine keep6 (Lib.hid (Up.refl _).drew) ?_)))
    (fail)
  clear ‹Up w _ ∧ _›
  go_wp2_with fail
  refine bodyPost_ret (v := .tuple #[.agg #[.int .i64 c, .int .i64 h, .int .i64 l', .slice (some ⟨g, 0, none⟩) c c], .agg #[.int .i64 q0, .int .i64 q1], .int .i64 0]) (by simp [results, Try.results24, go_sem, Z10, Z11, Z12, Z13, Z20, Z21]) rfl ⟨g, ?_, by omega, ?_, ?_⟩
  · rw [← HQ0.out, ← HQ1.out]; first | rfl | (rw [HM.out]; rfl)
  · have HB := HR6.out.bi.up HU5.out
    exact ((HB.far4 (p := w.heap.size + 1) (by omega)).far2 (p := w.heap.size + 1 + 1) (by omega)).drew
  · exact (((HUw.out.set4 (p := w.heap.size + 1) (by omega)).setCell (by show w.heap.size ≤ w.heap.size + 1 + 1; omega) _).setCell (by show w.heap.size ≤ w.heap.size + 1 + 1; omega) _).drew

end Go.Proofs.Ytjedcpfipebncaa
