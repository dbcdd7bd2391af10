/- What putLast of package ring leaves. -/
import Derived.Test.YtjedcpfipebncaaGPh
namespace Go.Proofs.Ytjedcpfipebncaa
open Go.RowKit

set_option maxHeartbeats 4000000 in
set_option maxRecDepth 100000 in
theorem putLast_any (p g c h l : Nat) (x0 x1 : Int) (L : List It) (hc : 1 ≤ c) (hc' : c ≤ 65536) (hh : h < c) (hl : l < c) (w : World) (hR : Rt w p g c h l L) :
    Calls Try.prog 34 #[.pointer (some ⟨p, 0, none⟩), .agg #[.int .i64 x0, .int .i64 x1]] w fun e w' => e = .returned (.tuple #[]) ∧ Wr w w' p g ∧ Rt w' p g c h (l + 1) (L.set ((h + l) % c) (x0, x1)) := by
  have K2 := Lib.hid (fun W => place_any c h l l (.slice (some ⟨g, 0, none⟩) c c) (by omega) (by omega) (by omega) (by omega) (by omega) (by omega) W)
  have hm : (h + l) % c < c := Nat.mod_lt _ (by omega)
  obtain ⟨m, hmm⟩ : ∃ m, m = (h + l) % c := ⟨_, rfl⟩
  rw [← hmm] at hm ⊢
  rw [show ((h : Int) + l) % c = (m : Int) by rw [hmm]; rfl] at K2
  clear hmm
  have f2 : (m : Int) < c := by omega
  have f3 : (0 : Int) ≤ m := by omega
  obtain ⟨w1, hw1⟩ : ∃ w1, w1 = w.alloc (.cells #[.int .i64 x0, .int .i64 x1] 35) := ⟨_, rfl⟩
  have HU1 : Hid (Up w w1) := Lib.hid (by rw [hw1]; exact (Up.refl _).alloc _ _)
  have y0 : w1.cell? ⟨w.heap.size, 0, none⟩ = some (.int .i64 x0) := by rw [hw1]; simp [go_sem]
  have y1 : w1.cell? ⟨w.heap.size, 1, none⟩ = some (.int .i64 x1) := by rw [hw1]; simp [go_sem]
  have HR := Lib.hid (hR.up HU1.out)
  have c0 := HR.out.c0
  have c1 := HR.out.c1
  have c2 := HR.out.c2
  have c3 := HR.out.c3
  have np : g ≠ p := Ne.symm HR.out.ne
  have hgl : g < w.heap.size := Blk.lt hR.bi
  clear hR
  have nx : g ≠ w.heap.size := by omega
  have hml : m < L.length := by rw [HR.out.len]; exact hm
  have PH : Hid (Ph w1 w1 p g m L) := Lib.hid (Ph.start HR.out.bi hml)
  have g0 := Lib.hid (Blk.frozen HR.out.bi (m * 2))
  have g1 := Lib.hid (Blk.frozen HR.out.bi (m * 2 + 1))
  have g2 := Lib.hid (HR.out.fz 2)
  go_enter Try.func34, Try.ntmps34
  go_wp2_with fail
  rw [← hw1]
  clear hw1
  go_region_held3 (fun w' => Ph w1 w' p g m L ∧ w'.cell? ⟨p, 0, none⟩ = some (.int .i64 c) ∧ w'.cell? ⟨p, 1, none⟩ = some (.int .i64 h) ∧ w'.cell? ⟨p, 2, none⟩ = some (.int .i64 l) ∧ w'.cell? ⟨p, 3, none⟩ = some (.slice (some ⟨g, 0, none⟩) c c) ∧ w'.cell? ⟨w.heap.size, 0, none⟩ = some (.int .i64 x0) ∧ w'.cell? ⟨w.heap.size, 1, none⟩ = some (.int .i64 x1))
    (first | (with_reducible exact pkeep6 (by assumption) (by assumption)) | (with_reducible exact pset6 (Hid.out (by assumption)) np np np np nx nx) | (exact ⟨PH.out, c0, c1, c2, c3, y0, y1⟩) | (exact pkeep6 (Lib.hid (Up.refl _).drew) ⟨PH.out, c0, c1, c2, c3, y0, y1⟩))
    (first
      | (go_at_call 30; (with_reducible refine (K2.out _).mono ?_); rintro e w' ⟨rfl, hu⟩; have HU2 := Lib.hid hu; have k0 := (hu.cells.2 _).trans (((And.left ‹Ph w1 _ p g m L ∧ _›).wr.fr _).trans g0.out); have k1 := (hu.cells.2 _).trans (((And.left ‹Ph w1 _ p g m L ∧ _›).wr.fr _).trans g1.out); have HP2 := Lib.hid (pkeep6 HU2 (by assumption)); obtain ⟨q0, q1, s0, s1⟩ := HP2.out.1.at_ hml; clear hu))
  clear ‹Ph w1 _ p g m L ∧ _›
  have HR4 := Lib.hid ((HR.out.drew.up HU2.out).put m x0 x1)
  have HW4 := Lib.hid (((((Wr.refl w p g).then HU1.out).drew.then HU2.out).setG (m * 2) (.int .i64 x0)).setG (m * 2 + 1) (.int .i64 x1))
  clear s0 s1 k0 k1 HP2
  generalize (w'.setCell ⟨g, m * 2, none⟩ (.int .i64 x0)).setCell ⟨g, m * 2 + 1, none⟩ (.int .i64 x1) = w4 at *
  have d2 := HR4.out.c2
  have d3 := HR4.out.fz 2
  have HR5 := Lib.hid (HR4.out.setLen (l + 1))
  rw [show ((l + 1 : Nat) : Int) = (l : Int) + 1 from rfl] at HR5
  clear c0 c1 c2 c3 y0 y1
  go_wp2
  go_end0
  exact ⟨rfl, HW4.out.setP _ _, HR5.out⟩
end Go.Proofs.Ytjedcpfipebncaa
