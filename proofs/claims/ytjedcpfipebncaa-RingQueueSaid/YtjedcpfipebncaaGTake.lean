/- What takeFirst of package ring leaves. -/
import Derived.Test.YtjedcpfipebncaaGPh
namespace Go.Proofs.Ytjedcpfipebncaa
open Go.RowKit

set_option maxHeartbeats 4000000 in
set_option maxRecDepth 100000 in
theorem takeFirst_any (p g c h l : Nat) (L : List It) (hc : 1 ≤ c) (hc' : c ≤ 65536) (hh : h < c) (hl : l < c) (w : World) (hR : Rt w p g c h (l + 1) L) :
    Calls Try.prog 36 #[.pointer (some ⟨p, 0, none⟩)] w fun e w' => e = .returned (.agg #[.int .i64 (L.getD h (0, 0)).1, .int .i64 (L.getD h (0, 0)).2]) ∧ Wr w w' p g ∧ Rt w' p g c ((h + 1) % c) l (L.set h (0, 0)) := by
  have K2 := Lib.hid (fun W => place_any c h ((l + 1 : Nat) : Int) 1 (.slice (some ⟨g, 0, none⟩) c c) (by omega) (by omega) (by omega) (by omega) (by omega) (by omega) W)
  have hm : (h + 1) % c < c := Nat.mod_lt _ (by omega)
  obtain ⟨m, hmm⟩ : ∃ m, m = (h + 1) % c := ⟨_, rfl⟩
  rw [← hmm] at hm ⊢
  rw [show ((h : Int) + 1) % c = (m : Int) by rw [hmm]; rfl, show ((l + 1 : Nat) : Int) = (l : Int) + 1 from rfl] at K2
  clear hmm
  have f2 : (h : Int) < c := by omega
  have f3 : (0 : Int) ≤ h := by omega
  obtain ⟨w1, hw1⟩ : ∃ w1, w1 = w.alloc (.cells #[.int .i64 0, .int .i64 0] 35) := ⟨_, rfl⟩
  have HU1 : Hid (Up w w1) := Lib.hid (by rw [hw1]; exact (Up.refl _).alloc _ _)
  have y0 : w1.cell? ⟨w.heap.size, 0, none⟩ = some (.int .i64 0) := by rw [hw1]; simp [go_sem]
  have y1 : w1.cell? ⟨w.heap.size, 1, none⟩ = some (.int .i64 0) := by rw [hw1]; simp [go_sem]
  have hs1 : w1.heap.size = w.heap.size + 1 := by rw [hw1]; simp
  have HS1 := Lib.hid hs1
  have HR := Lib.hid (hR.up HU1.out)
  have hgl : g < w.heap.size := Blk.lt hR.bi
  have hpl : p < w.heap.size := World.block_lt_of_cell? _ _ hR.c0
  have np : g ≠ p := Ne.symm HR.out.ne
  clear hR
  have hml : h < L.length := by rw [HR.out.len]; exact hh
  have c1 := HR.out.c1
  have c3 := HR.out.c3
  obtain ⟨d0, d1⟩ := Bi.at_ HR.out.bi (k := h) hml
  generalize (L.getD h (0, 0)).1 = q0 at *
  generalize (L.getD h (0, 0)).2 = q1 at *
  go_enter Try.func36, Try.ntmps36
  go_wp2_with fail
  rw [← hw1]
  clear hw1 hs1
  have S0 : Up w1 w1 ∧ w1.cell? ⟨p, 1, none⟩ = some (.int .i64 h) ∧ w1.cell? ⟨p, 3, none⟩ = some (.slice (some ⟨g, 0, none⟩) c c) ∧ w1.cell? ⟨g, h * 2, none⟩ = some (.int .i64 q0) ∧ w1.cell? ⟨g, h * 2 + 1, none⟩ = some (.int .i64 q1) := ⟨Up.refl _, c1, c3, d0, d1⟩
  have HS0 := Lib.hid S0
  clear S0
  go_region_held3 (fun w' => Up w1 w' ∧ w'.cell? ⟨p, 1, none⟩ = some (.int .i64 h) ∧ w'.cell? ⟨p, 3, none⟩ = some (.slice (some ⟨g, 0, none⟩) c c) ∧ w'.cell? ⟨g, h * 2, none⟩ = some (.int .i64 q0) ∧ w'.cell? ⟨g, h * 2 + 1, none⟩ = some (.int .i64 q1))
    (repeat (first | (with_reducible exact HS0.out) | (with_reducible assumption) | (with_reducible refine set4 ?_ (Nat.le_refl _) (by have := HS1.out; omega) (by have := HS1.out; omega) (by have := HS1.out; omega) (by have := HS1.out; omega)) | (with_reducible refine keep4 (Lib.hid ((Up.refl _).alloc _ _)) ?_) | (with_reducible refine keep4 (Lib.hid (Up.refl _).drew) ?_)))
    (fail)
  go_wp2_with fail
  clear ‹Up w1 _ ∧ _›
  obtain ⟨w2, hw2⟩ : ∃ w2, w2 = (w1.alloc (.cells #[.int .i64 q0, .int .i64 q1] 35)).drew := ⟨_, rfl⟩
  rw [← hw2]
  have HU2 : Hid (Up w1 w2) := Lib.hid (by rw [hw2]; exact ((Up.refl _).alloc _ _).drew)
  have x0 : w2.cell? ⟨w1.heap.size, 0, none⟩ = some (.int .i64 q0) := by rw [hw2]; simp [go_sem]
  have x1 : w2.cell? ⟨w1.heap.size, 1, none⟩ = some (.int .i64 q1) := by rw [hw2]; simp [go_sem]
  have y0' := HU2.out.keep _ _ _ y0
  have y1' := HU2.out.keep _ _ _ y1
  have HR2 := Lib.hid (HR.out.up HU2.out)
  clear hw2 c1 c3 d0 d1 y0 y1 HS0 HR
  have c1 := HR2.out.c1
  have c3 := HR2.out.c3
  obtain ⟨d0, d1⟩ := Bi.at_ HR2.out.bi (k := h) hml
  have k0 := Blk.frozen HR2.out.bi (h * 2)
  have k1 := Blk.frozen HR2.out.bi (h * 2 + 1)
  have PH : Hid (Ph w2 w2 p g h L) := Lib.hid (Ph.start HR2.out.bi hml)
  go_region_held3 (fun w' => Ph w2 w' p g h L ∧ w'.cell? ⟨p, 1, none⟩ = some (.int .i64 h) ∧ w'.cell? ⟨p, 3, none⟩ = some (.slice (some ⟨g, 0, none⟩) c c))
    (first | (with_reducible exact pset2 (by assumption) np np) | (exact pkeep2 (Lib.hid (Up.refl _).drew) ⟨PH.out, c1, c3⟩) | (with_reducible exact pset2 (pkeep2 (Lib.hid (Up.refl _).drew) ⟨PH.out, c1, c3⟩) np np) | (exact pkeep2 (Lib.hid (Up.refl _).drew) (pset2 ⟨PH.out, c1, c3⟩ np np)))
    (fail)
  clear ‹Ph w2 _ p g h L ∧ _›
  have HR3 := Lib.hid ((HR2.out.put h 0 0).drew)
  have HW3 := Lib.hid (((((Wr.refl w p g).then HU1.out).then HU2.out).setG (h * 2) (.int .i64 0)).setG (h * 2 + 1) (.int .i64 0)).drew
  have n1 : g ≠ w1.heap.size := by have := HS1.out; omega
  have n2 : g ≠ w.heap.size := by omega
  have x0' := Lib.hid (((cell_far (w := w2.setCell ⟨g, h * 2, none⟩ (.int .i64 0)) (p := ⟨g, h * 2 + 1, none⟩) (v := .int .i64 0) (b := w1.heap.size) (o := 0) n1).trans (cell_far n1)).trans x0)
  have x1' := Lib.hid (((cell_far (w := w2.setCell ⟨g, h * 2, none⟩ (.int .i64 0)) (p := ⟨g, h * 2 + 1, none⟩) (v := .int .i64 0) (b := w1.heap.size) (o := 1) n1).trans (cell_far n1)).trans x1)
  have y0'' := Lib.hid (((cell_far (w := w2.setCell ⟨g, h * 2, none⟩ (.int .i64 0)) (p := ⟨g, h * 2 + 1, none⟩) (v := .int .i64 0) (b := w.heap.size) (o := 0) n2).trans (cell_far n2)).trans y0')
  have y1'' := Lib.hid (((cell_far (w := w2.setCell ⟨g, h * 2, none⟩ (.int .i64 0)) (p := ⟨g, h * 2 + 1, none⟩) (v := .int .i64 0) (b := w.heap.size) (o := 1) n2).trans (cell_far n2)).trans y1')
  clear c1 c3 d0 d1 k0 k1 x0 x1 y0' y1'
  obtain ⟨w3, hw3⟩ : ∃ w3, w3 = ((w2.setCell ⟨g, h * 2, none⟩ (.int .i64 0)).setCell ⟨g, h * 2 + 1, none⟩ (.int .i64 0)).drew := ⟨_, rfl⟩
  rw [← hw3] at HR3 HW3 ⊢
  have X0 : w3.cell? ⟨w1.heap.size, 0, none⟩ = some (.int .i64 q0) := by rw [hw3]; exact x0'.out
  have X1 : w3.cell? ⟨w1.heap.size, 1, none⟩ = some (.int .i64 q1) := by rw [hw3]; exact x1'.out
  have Y0 : w3.cell? ⟨w.heap.size, 0, none⟩ = some (.int .i64 0) := by rw [hw3]; exact y0''.out
  have Y1 : w3.cell? ⟨w.heap.size, 1, none⟩ = some (.int .i64 0) := by rw [hw3]; exact y1''.out
  clear hw3 x0' x1' y0'' y1''
  have c0 := HR3.out.c0
  have c1 := HR3.out.c1
  have c2 := HR3.out.c2
  rw [show ((l + 1 : Nat) : Int) = (l : Int) + 1 from rfl] at c2
  have c3 := HR3.out.c3
  go_wp2_with (go_at_call 30; refine (K2.out _).mono ?_; rintro e w4 ⟨rfl, hu⟩; have HU4 := Lib.hid hu; clear hu; have C1 := HU4.out.keep _ _ _ c1; have C2 := HU4.out.keep _ _ _ c2; have X0' := HU4.out.keep _ _ _ X0; have X1' := HU4.out.keep _ _ _ X1; have Y0' := HU4.out.keep _ _ _ Y0; have Y1' := HU4.out.keep _ _ _ Y1; have HR4 := Lib.hid (HR3.out.up HU4.out); have z1 := HR4.out.fz 1; have z2 := HR4.out.fz 2; have v0 := (HU4.out.cells.2 ⟨w.heap.size, 0, none⟩).trans ((HW3.out.fr _).trans (frozen_new w 0 0)); have v1 := (HU4.out.cells.2 ⟨w.heap.size, 1, none⟩).trans ((HW3.out.fr _).trans (frozen_new w 0 1)); have m1 : p ≠ w1.heap.size := (by have := HS1.out; omega); have m2 : p ≠ w.heap.size := (by omega))
  refine bodyPost_ret (v := .agg #[.int .i64 q0, .int .i64 q1]) (by simp [results, Try.results36, go_sem, Y0', Y1']) rfl ⟨rfl, ?_, ?_⟩
  · exact ((((HW3.out.then HU4.out).setP 1 _).setP 2 _).setN (q := w.heap.size) (Nat.le_refl _) 0 _).setN (q := w.heap.size) (Nat.le_refl _) 1 _
  · exact (((HR4.out.setHead m).setLen l).far (Ne.symm m2) (Ne.symm n2) 0 _).far (Ne.symm m2) (Ne.symm n2) 1 _
end Go.Proofs.Ytjedcpfipebncaa
